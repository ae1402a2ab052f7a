import PyProof.Rows.All
import Wide.All
import OpenK.AllK
import Wide.FinOn
import HandS.ForExc
import HandS.Wide
import HandS.IsInst
import HandS.ExcIs
import KE.KExcInit
import KE.KExcIs
import HandS.ForMost
import HandS.WideMore
import HandS.WideBits
import HandS.RevRange
import HandS.Rev
import HandS.NoneIn
import PyProof.ReprBulk
import HandS.OwnEq
import HandS.MakeKwOnly
import HandS.Property
import HandS.ClsMeth
import HandS.Walk
import PySem.Challenge.RW_abacushead_k01_rows
set_option Elab.async false
set_option linter.all false
set_option maxRecDepth 100000
set_option exponentiation.threshold 100
/-! repr of data, and promises that hold where no repr is under way -/
namespace GL
open PySem L2 PySem.Spec PyProof.Rows

/-- nothing is being shown -/
abbrev Quiet (A : Around) : Prop := A.guards = some []

/-- a def's promise, asked only where nothing is being shown -/
structure FnG (P : Program) (w : World) (K : PySem.W.Frag) (mg : Str → Option Value) (base : Heap) (cx : CXT) (k : Nat) (f : Addr)
    (fd : FuncData) (ps : List Str) (sp : Sp) : Prop where
  len : ∀ vs H Q E, sp vs H Q E → vs.length = ps.length
  go : ∀ {A : Around} {outer : List Env} {s : Shared} {H : Hp} {args : Args} {us : List Value} {vs : List V} {Q : VK} {E : XK},
    Quiet A → Room k A → Env0 P w K mg base A outer s H → BindsTo s fd args (ps.zip us) → Vals vs us → sp vs H Q E →
    codeAny (model P w) A (.call (.ref f) args) (CR cx outer P w H s Q E) s

section
variable {P : Program} {w : World} {K : PySem.W.Frag} {mg : Str → Option Value} {base : Heap} {cx : CXT} {k : Nat} {f : Addr}
  {fd : FuncData} {ps : List Str} {sp : Sp}
theorem FnG.of (F : FnOk P w K mg base cx k f fd ps sp) : FnG P w K mg base cx k f fd ps sp :=
  ⟨F.len, fun _ hr e b v h => F.run _ _ _ _ _ _ _ _ _ hr e b v h⟩

/-- a def by its body -/
theorem FnG.mkX {N : List Str} {x qual : Str} {st : Stmt} (F : Fun K x qual st f fd) (S : FnScope N ps (defScope st))
    (len : ∀ vs H Q E, sp vs H Q E → vs.length = ps.length)
    (body : ∀ (cdv : Value) (A : Around) (outer : List Env) (s : Shared) (H : Hp) (vs : List V) (Q : VK) (E : XK),
      Quiet A → Room k (A.deeper (envOfC qual (defScope st) s.heap.objs.size f cdv)) → sp vs H Q E →
      ∃ t, PSs (cxOf cx P w K mg base N qual (defScope st) f cdv A outer s H E) (defBody st) t ∧
        t { nx := fun _ H' => Q .non H', rt := Q } (start N vs) H) : FnG P w K mg base cx (k + 1) f fd ps sp := by
  obtain ⟨oc, od, kV, doc, pm, an, cdv, ct, osl, rfl, lk, hcd⟩ := F.ex
  constructor
  · exact len
  · intro A outer s H args us vs Q E quiet hr e0 hb rv hsp
    have h1 := len _ _ _ _ hsp
    have KX : K.In s.heap := fun b o e => (e0.bs b o (e0.mod.kin b o e)).1
    have lim : s.heap.NoLimit := e0.mod.nolimit.keeps fun b o e => (e0.bs b o e).1
    obtain ⟨t, ht, hq⟩ := body cdv A outer s H vs Q E quiet (hr.deeper _) hsp
    refine codeAny_call_function hr.depth (KX _ _ lk) rfl S.co S.gen rfl (PySem.W.codeRec_of KX hcd) ?_
    refine hb _ _ _ _ (wpAny_newFunctionEnv_cells S.kind ?_ ?_)
    · rintro ⟨n, v⟩ hy
      have hp := (List.of_mem_zip hy).1
      cases S.par n hp with
      | inl q => exact Or.inl q
      | inr q => exact Or.inr ⟨q, PySem.W.cellsFrom_some _ _ _ (Or.inl q)⟩
    · intro env he s1 ic
      cases he
      refine ⟨lim.keeps ic.toInCall.keep, codeAny_func (wpAny_mono (ht.run [] s1 (start N vs) H _
        (inv_start S hr.hd e0 h1 rv ic) hq) ?_ fun _ _ z => z)⟩
      intro fl s' hs
      cases fl with
      | next =>
        obtain ⟨σ', H', J, q⟩ := hs
        exact ⟨V.non, H', J.os, J.bare, J.base, J.hok, rfl, q⟩
      | ret u =>
        obtain ⟨v, σ', H', J, r', q⟩ := hs
        exact ⟨v, H', J.os, J.bare, J.base, J.hok, r', q⟩
      | brk =>
        obtain ⟨_, _, _, q⟩ := hs
        exact (q : False).elim
      | cont =>
        obtain ⟨_, _, _, q⟩ := hs
        exact (q : False).elim
/-- .. that no exception leaves -/
theorem FnG.mk0 {N : List Str} {x qual : Str} {st : Stmt} (F : Fun K x qual st f fd) (S : FnScope N ps (defScope st))
    (len : ∀ vs H Q E, sp vs H Q E → vs.length = ps.length)
    (body : ∀ (cdv : Value) (A : Around) (outer : List Env) (s : Shared) (H : Hp) (vs : List V) (Q : VK) (E : XK),
      Quiet A → Room k (A.deeper (envOfC qual (defScope st) s.heap.objs.size f cdv)) → sp vs H Q E →
      ∃ t, PSs (cxOf CX0 P w K mg base N qual (defScope st) f cdv A outer s H E).nox (defBody st) t ∧
        t { nx := fun _ H' => Q .non H', rt := Q } (start N vs) H) : FnG P w K mg base CX0 (k + 1) f fd ps sp :=
  FnG.mkX F S len fun cdv A outer s H vs Q E qu hr h => by
    obtain ⟨t, h1, h2⟩ := body cdv A outer s H vs Q E qu hr h
    exact ⟨t, h1.nox, h2⟩
end

section
variable {X : Cx} {cx : CXT} {k : Nat} {f : Addr} {fd : FuncData} {ps : List Str} {sp : Sp} {dvs : List V} {ds : List Value} {E : XK}
/-- the call of such a def -/
theorem runG {pins : List (Addr × Obj)} {σ : L2.St} {H : Hp} {s : Shared} {Q : VK} {us : List Value} {vs : List V}
    (F : FnG X.prog X.w X.K X.mg X.base cx k f fd ps sp) (quiet : Quiet X.A) (hr : Room k X.A) (hb : Binds X.K fd ps ds) (hd : Vals dvs ds)
    (hx : Passes cx X E) (I : Inv X pins σ H s) (r : Vals vs us) (h : sp (vs ++ dvs) H Q E) :
    wpAny (model X.prog X.w) X.A (call (.ref f) us) (EP X pins σ Q) X.xe s := by
  have both := r.append hd
  have hl : (us ++ ds).length = ps.length := both.length.symm.trans (F.len _ _ _ _ h)
  refine wpAny_call (codeAny_mono (F.go quiet hr I.env0 (hb s us I.kIn hl) both h) ?_)
  intro res s' hq
  cases res with
  | error e => exact hx _ _ _ _ _ _ I hq
  | ok fl =>
    cases fl with
    | ret u => exact I.after hq
    | next => exact (hq : False).elim
    | brk => exact (hq : False).elim
    | cont => exact (hq : False).elim
theorem pe_callG {x : Str} {p pos : Pos} {e : Expr} {es : List Expr} {t : TA} (F : FnG X.prog X.w X.K X.mg X.base cx k f fd ps sp)
    (quiet : Quiet X.A) (hr : Room k X.A) (hg : Gl X x) (hm : X.mg x = some (.ref f)) (hk : PySem.W.keepIn X.K (.ref f) = true)
    (hb : Binds X.K fd ps ds) (hd : Vals dvs ds) (hx : Passes cx X E) (ha : PA X (e :: es) t)
    (hdb : (x == ("__debug__" : Str)) = false := by decide)
    (he : starEach (e :: es) X.env = (false, eval e X.env) :: starEach es X.env := by rfl)
    (hpl : (backTo pos (starEach es X.env)).any (·.1) = false := by rfl) : PE X (.Call (.Name x p) (e :: es) [] pos) (tCall sp dvs E t) := by
  constructor
  intro pins s σ H Q I h
  apply wpAny_Call_Name_kw
  apply ld_glob I hg hm _ hdb
  refine PySem.W.callWith_K (h₀ := X.base) I.ok.mod.kin hk ?_ he hpl
  refine thn (ha.run pos pins s σ H _ I h) ?_
  rintro us s1 ⟨vs, H1, I1, r, q⟩
  exact ⟨I1.kIn, runG F quiet hr hb hd hx I1 r q⟩
theorem pe_call0G {x : Str} {p pos : Pos} (F : FnG X.prog X.w X.K X.mg X.base cx k f fd ps sp)
    (quiet : Quiet X.A) (hr : Room k X.A) (hg : Gl X x) (hm : X.mg x = some (.ref f)) (hk : PySem.W.keepIn X.K (.ref f) = true)
    (hb : Binds X.K fd ps ds) (hd : Vals dvs ds) (hx : Passes cx X E)
    (hdb : (x == ("__debug__" : Str)) = false := by decide) : PE X (.Call (.Name x p) [] [] pos) (tCall sp dvs E tNil) := by
  constructor
  intro pins s σ H Q I h
  apply wpAny_Call_Name_kw
  apply ld_glob I hg hm _ hdb
  exact PySem.W.callWith_K0 I.kIn hk (runG (us := []) F quiet hr hb hd hx I .nil h)
end

/-! ### the law's own call -/
section
variable {P : Program} {w : World} {K : PySem.W.Frag} {mg mb : Str → Option Value} {cx : CXT} {k : Nat} {fa a : Addr} {fd : FuncData}
  {x : Str} {sp : Sp} {s₁ : Shared} {vs : List Value} {ns : List Int}
theorem law_goes (H : Hp) (hO : Only H) (hS : SqL K H a (ns.map V.int)) (hok : HOk P w H s₁.heap) (hA : ∀ b, H b ≠ none → b = a)
    (hK : H a ≠ none → K.lookup a = none)
    (KX : K.In s₁.heap) (hns : s₁.heap.Ns mainGlobals mg) (hb : s₁.heap.Ns builtinsNs mb)
    (hbb : ∀ x : Str, x ≠ "__name__" → mb x = bootBuiltins x) (hlim : s₁.heap.NoLimit) (hg : s₁.gens = #[])
    (ha : s₁.heap.get? a = some { cls := .type "list", data := .seq vs.toArray }) (hr : Room k callerA)
    (F : ∀ base : Heap, K.In base → base.Ns mainGlobals mg → FnG P w K mg base cx k fa fd [x] sp)
    (hbind : ∀ (s : Shared) (u : Value), BindsTo s fd ⟨[u], []⟩ [(x, u)])
    (hsp : sp [.ref a] H (fun v _ => v = .bl true) fun _ _ _ => False)
    (hcx : ∀ e s', cx [] H s₁ (fun _ _ _ => False) e s' → False) :
    codeAny (model P w) callerA (.call (.ref fa) ⟨[.ref a], []⟩)
      (fun r s' => r = .ok (.ret (.bool true)) ∧ OldK s₁.heap s'.heap ∧ s'.os = s₁.os ∧ AllBare s'.gens) s₁ := by
  have dictFree : ∀ b o es ep, s₁.heap.get? b = some o → o.data = .dict es ep → H b = none := by
    intro b o es ep e d
    by_cases q : H b = none
    · exact q
    · have := hA b q
      rw [this, ha] at e
      cases e
      cases (d : Data.seq vs.toArray _ = Data.dict es ep)
  have nsB : ∀ {b : Addr} {m : Str → Option Value}, s₁.heap.Ns b m → (hidT s₁.heap H).Ns b m := by
    rintro b m ⟨o, es, ep, e, d, r⟩
    exact ⟨o, es, ep, hidT_get e (dictFree b o es ep e d), d, r⟩
  have kB : K.In (hidT s₁.heap H) := by
    intro b o e
    refine hidT_get (KX b o e) ?_
    by_cases q : H b = none
    · exact q
    · have z := hA b q
      subst z
      rw [hK q] at e
      cases e
  obtain ⟨mc, l1, l2⟩ := hlim
  have M : Mod K mg (hidT s₁.heap H) := ⟨kB, nsB hns, ⟨mb, nsB hb, hbb⟩, mc, nsB l1, l2⟩
  have none0 : ∀ b : Addr, b ∉ frs ([] : List Env) := fun b z => by cases z
  have e0 : Env0 P w K mg (hidT s₁.heap H) callerA [] s₁ H :=
    ⟨rfl, M, fun b o e => of_hidT e, Nat.le_of_eq (hidT_size _ _), trivial, fun b z => (none0 b z).elim, hok, .of_eq hg⟩
  have main := (F _ kB (nsB hns)).go (A := callerA) (outer := []) (H := H) (args := ⟨[.ref a], []⟩) (us := [.ref a]) rfl hr e0 (hbind s₁ (.ref a))
    (vs := [.ref a]) (.cons rfl .nil) hsp
  refine codeAny_mono main ?_
  intro res s' hs
  cases res with
  | error e => exact (hcx e s' hs).elim
  | ok fl =>
    cases fl with
    | next => exact (hs : False).elim
    | brk => exact (hs : False).elim
    | cont => exact (hs : False).elim
    | ret u =>
      obtain ⟨v, H', os, bare, un, hok', r', q⟩ := hs
      cases (q : v = .bl true)
      cases (r' : u = Value.bool true)
      refine ⟨rfl, OldK.of_keep ?_, os, bare⟩
      intro b o e
      cases hO b with
      | inl q => exact un.keep b o e q (none0 b) (by simp)
      | inr q =>
        obtain ⟨ob, xs, z⟩ := q
        have f1 := (hok b _ z).1
        have f2 := (hok' b _ (un.frzs b ob _ z)).1
        rw [f1] at e
        cases e
        exact f2
theorem law_callG (KX : K.In s₁.heap) (hns : s₁.heap.Ns mainGlobals mg) (hb : s₁.heap.Ns builtinsNs mb)
    (hbb : ∀ x : Str, x ≠ "__name__" → mb x = bootBuiltins x) (hlim : s₁.heap.NoLimit) (hg : s₁.gens = #[])
    (ha : s₁.heap.get? a = some { cls := .type "list", data := .seq vs.toArray }) (hi : IntsAre vs ns) (hl : ns.length ≤ sizeLine) (hr : Room k callerA)
    (F : ∀ base : Heap, K.In base → base.Ns mainGlobals mg → FnG P w K mg base cx k fa fd [x] sp)
    (hbind : ∀ (s : Shared) (u : Value), BindsTo s fd ⟨[u], []⟩ [(x, u)])
    (hsp : ∀ H : Hp, Only H → SqL K H a (ns.map V.int) → sp [.ref a] H (fun v _ => v = .bl true) fun _ _ _ => False)
    (hcx : ∀ H e s', cx [] H s₁ (fun _ _ _ => False) e s' → False) :
    codeAny (model P w) callerA (.call (.ref fa) ⟨[.ref a], []⟩)
      (fun r s' => r = .ok (.ret (.bool true)) ∧ OldK s₁.heap s'.heap ∧ s'.os = s₁.os ∧ AllBare s'.gens) s₁ := by
  have rv := vals_ints hi
  cases hk : K.lookup a with
  | some o =>
    have e := KX a o hk
    rw [ha] at e
    cases e
    have hS : SqL K (fun _ => none) a (ns.map V.int) :=
      .inr ⟨_, vs.toArray, _, hk, rfl, rfl, rfl, by rw [List.size_toArray, hi.length]; exact hl, by simpa using rv⟩
    have hO : Only fun _ => none := fun _ => .inl rfl
    exact law_goes (fun _ => none) hO hS (fun b u z => nomatch z) (fun b z => (z rfl).elim) (fun z => (z rfl).elim) KX hns hb hbb hlim hg ha hr F hbind
      (hsp _ hO hS) (hcx _)
  | none =>
    let G : Hp := upd (fun _ => none) a (.frz { cls := .type "list", data := .seq vs.toArray } (.lst (ns.map V.int)))
    have atA : G a = some (.frz { cls := .type "list", data := .seq vs.toArray } (.lst (ns.map V.int))) := upd_same
    have off : ∀ b, b ≠ a → G b = none := fun b h => upd_ne h
    have hS : SqL K G a (ns.map V.int) := .inl (.inr ⟨_, atA⟩)
    have hO : Only G := fun b => by
      by_cases q : b = a
      · subst q
        exact .inr ⟨_, _, atA⟩
      · exact .inl (off b q)
    have hok : HOk P w G s₁.heap := by
      intro b u z
      by_cases q : b = a
      · subst q
        rw [atA] at z
        cases z
        exact ⟨ha, by rw [List.length_map]; exact hl, vs, _, rv, ha⟩
      · rw [off b q] at z
        cases z
    have hA : ∀ b, G b ≠ none → b = a := fun b z => by
      by_cases q : b = a
      · exact q
      · exact (z (off b q)).elim
    exact law_goes G hO hS hok hA (fun _ => hk) KX hns hb hbb hlim hg ha hr F hbind (hsp _ hO hS) (hcx _)
end
/-- a law's row by its def's promise -/
theorem walkG {l : PySem.W.OpenLaw} {n k : Nat} {q : Program} {loose : List Str} {XP : (Str → Option Value) → Heap → Prop}
    {YP : World → Heap → Prop} {d : DefRec} {K : Params → PySem.W.Frag} {cx : World → CXT} {sp : World → Sp} {x : Str}
    (hn : l.most = some n) (hn2 : n ≤ sizeLine) (hdf : d.params.defaults = []) (hr : Room k callerA)
    (hY : ∀ (w : World) (h : Heap), YP w h → (K w.params).In h)
    (F : ∀ (w : World) (mg : Str → Option Value) (fa : Addr) (h : Heap), (K w.params).In h → h.Ns mainGlobals mg → mg d.name = some (.ref fa) →
      ∃ fd : FuncData, (∀ (s : Shared) (u : Value), BindsTo s fd ⟨[u], []⟩ [(x, u)]) ∧
        ∀ base : Heap, (K w.params).In base → base.Ns mainGlobals mg → FnG l.prog w (K w.params) mg base (cx w) k fa fd [x] (sp w))
    (hsp : ∀ (w : World) (H : Hp) (a : Addr) (ns : List Int), ns.length ≤ n → Only H → SqL (K w.params) H a (ns.map V.int) →
      sp w [.ref a] H (fun v _ => v = .bl true) fun _ _ _ => False)
    (hcx : ∀ (w : World) (H : Hp) (s : Shared) (e : Value) (s' : Shared), cx w [] H s (fun _ _ _ => False) e s' → False) :
    PySem.W.WalkO q loose XP YP l.row.toRowW d [] (fun f vs => PySem.call f vs) := by
  apply Att.attach_call hn hdf
  intro w s₀ s₁ mg mb fa o pm cd doc a vs ns G Y ho hd hcd hmg hobj hints hlen hgens
  have KX := hY w _ Y
  obtain ⟨fd, hb, hF⟩ := F w mg fa _ KX G.T.g hmg
  exact law_callG KX G.T.g G.T.b G.T.builtins G.T.nolimit hgens hobj hints (Nat.le_trans hlen hn2) hr hF hb
    (fun H hO hS => hsp w H a ns hlen hO hS) fun H e s' => hcx w H s₁ e s'

/-! ### repr -/
/-- a key as data -/
def kD : Key → PyData
  | .inl i => .int i
  | .inr x => .str x
/-- a value that is no object, as data -/
def flatD : V → PyData
  | .bl b => .bool b
  | .int i => .int i
  | .str x => .str x
  | _ => .none
def isFlat : V → Bool
  | .non | .bl _ | .int _ | .str _ => true
  | _ => false
/-- an item that is no object, or a dict of values that are no objects -/
inductive Mix1 (H : Hp) : V → PyData → Prop
  | flat {v : V} : isFlat v = true → Mix1 H v (flatD v)
  | dic {a : Addr} {kvs : List (Key × V)} : H a = some (.dK kvs) → (kvs.all fun p => isFlat p.2) = true → Mix1 H (.ref a) (.dict (kvs.map fun p => (kD p.1, flatD p.2)))
inductive MixAll (H : Hp) : List V → List PyData → Prop
  | nil : MixAll H [] []
  | cons {v : V} {vs : List V} {d : PyData} {ds : List PyData} : Mix1 H v d → MixAll H vs ds → MixAll H (v :: vs) (d :: ds)
/-- what stands at a value: data, or a dict of values that are no objects, or a tuple with such dicts -/
inductive ShD (K : PySem.W.Frag) (H : Hp) : V → PyData → Prop
  | data {v : V} {d : PyData} : Dp K H v d → ShD K H v d
  | mix {v : V} {d : PyData} : Mix1 H v d → ShD K H v d
  | tup {a : Addr} {xs : List V} {ds : List PyData} : SqT K H a xs → MixAll H xs ds → ShD K H (.ref a) (.tuple ds)
/-- repr(x) of data x -/
def rRepr (K : PySem.W.Frag) : List V → Hp → VK → Prop := fun xs H Q => ∃ x d, xs = [x] ∧ ShD K H x d ∧ d.showable = true ∧ d.depth ≤ 60 ∧
  d.shown.length ≤ sizeLine ∧ Q (.str d.shown) H
theorem Dp.noDict {K : PySem.W.Frag} {H : Hp} : ∀ (d : PyData) (v : V), Dp K H v d → d.hasDict = false := by
  intro d v h
  induction h using Dp.rec (motive_2 := fun vs ds _ => PyData.hasDictAll ds = false) with
  | non => rfl
  | bl => rfl
  | int => rfl
  | str => rfl
  | lst _ _ ih => simpa only [PyData.hasDict] using ih
  | tup _ _ ih => simpa only [PyData.hasDict] using ih
  | nil => rfl
  | cons _ _ h1 h2 => simp only [PyData.hasDictAll, h1, h2, Bool.or_self]
theorem reads_flat {h : Heap} {v : V} {u : Value} (f : isFlat v = true) (r : RelV v u) : Reads h u (flatD v) [] := by
  cases v with
  | non => cases r; exact .none
  | bl b => cases r; exact .bool b
  | int i => obtain ⟨t, rfl⟩ := r; exact .int i t
  | str x => obtain ⟨t, rfl⟩ := r; exact .str x t
  | _ => cases f
theorem reads_key {P : Program} {w : World} {h : Heap} {k : Key} {u : Value} (r : (mixKind P w).is k u = true) : Reads h u (kD k) [] := by
  rcases keyIs_shape r with ⟨i, t, rfl, rfl⟩ | ⟨x, t, rfl, rfl⟩
  · exact .int i t
  · exact .str x t
theorem reads_dic {P : Program} {w : World} {h : Heap} : ∀ {kvs : List (Key × V)} {vs : List (Key × Value)} {es : List DictEntry}, (kvs.all fun p => isFlat p.2) = true →
    KV kvs vs → Pairs (mixKind P w) es vs →
    ReadsAll h (es.map (·.key)) (kvs.map fun p => kD p.1) [] ∧ ReadsAll h (es.map (·.val)) (kvs.map fun p => flatD p.2) [] := by
  intro kvs vs es f kv pr
  induction pr generalizing kvs with
  | nil =>
    cases kv
    exact ⟨.nil, .nil⟩
  | cons hk hv _ ih =>
    cases kv with
    | cons h1 h2 =>
      simp only [List.all_cons, Bool.and_eq_true] at f
      obtain ⟨i1, i2⟩ := ih f.2 h2
      obtain ⟨e1, e2⟩ := h1
      constructor
      · exact ReadsAll.cons (as := []) (by dsimp only; rw [e1]; exact reads_key hk) i1
      · exact ReadsAll.cons (as := []) (by dsimp only; rw [hv]; exact reads_flat f.1 e2) i2
section
variable {X : Cx} {pins : List (Addr × Obj)} {σ : L2.St} {H : Hp} {s : Shared}
theorem Mix1.reads {v : V} {u : Value} {d : PyData} (I : Inv X pins σ H s) (h : Mix1 H v d) (r : RelV v u) : ∃ as, Reads s.heap u d as ∧ sysModules ∉ as := by
  cases h with
  | flat f => exact ⟨[], reads_flat f r, by simp⟩
  | @dic a kvs ha f =>
    cases r
    obtain ⟨_, ne, vs, kv, o, es, ep, h1, h2, h3, _, h5, _⟩ := I.hok a _ ha
    obtain ⟨q1, q2⟩ := reads_dic (h := s.heap) f kv h5
    refine ⟨_, Reads.dict h1 h2.1 h3 (by simpa only [List.map_map, Function.comp_def] using q1) (by simpa only [List.map_map, Function.comp_def] using q2), ?_⟩
    intro hm
    simp at hm
    simp [hm] at ne
theorem MixAll.reads (I : Inv X pins σ H s) : ∀ {vs : List V} {us : List Value} {ds : List PyData}, MixAll H vs ds → Vals vs us → ∃ as, ReadsAll s.heap us ds as ∧ sysModules ∉ as
  | _, _, _, .nil, .nil => ⟨[], .nil, by simp⟩
  | _, _, _, .cons h t, .cons r rt => by
    obtain ⟨as, q1, n1⟩ := h.reads I r
    obtain ⟨bs, q2, n2⟩ := MixAll.reads I t rt
    exact ⟨_, .cons q1 q2, by simp [n1, n2]⟩
theorem ShD.reads {v : V} {u : Value} {d : PyData} (I : Inv X pins σ H s) (h : ShD X.K H v d)
    (r : RelV v u) : ∃ as, Reads s.heap u d as ∧ (d.hasDict = true → sysModules ∉ as) := by
  cases h with
  | data h =>
    obtain ⟨as, q⟩ := Dp.reads I d v u h r
    exact ⟨as, q, fun z => by rw [Dp.noDict _ _ h] at z; cases z⟩
  | mix h =>
    obtain ⟨as, q, n⟩ := h.reads I r
    exact ⟨as, q, fun _ => n⟩
  | tup hs ha =>
    cases r
    obtain ⟨its, rv, ⟨o, ho, hc, n, hd⟩, _⟩ := I.tuple hs
    obtain ⟨as, hr, ns⟩ := MixAll.reads I ha rv
    exact ⟨_, Reads.tuple ho hc hd hr, fun _ => ns⟩
end
theorem call_repr {X : Cx} (quiet : Quiet X.A) (hu : X.A.units + 64 < cLine) : CallR X (.builtin "repr") (rRepr X.K) := by
  intro pins s σ H xs us Q I r h
  obtain ⟨x, d, rfl, hd, hs, hdep, hz, q⟩ := h
  obtain ⟨u, rfl, ru⟩ := vals1 r
  obtain ⟨as, rd, ns⟩ := hd.reads I ru
  have obj : ∀ a, u = .ref a → wpAny (model X.prog X.w) X.A (call (.builtin "repr") [u]) (EP X pins σ Q) X.xe s := by
    intro a e
    subst e
    exact repr_of_reads' rd hs ns quiet (by omega) (fun _ _ e => e) (fun h' u tk hk => ⟨.str _, H, I.kept hk, ⟨_, rfl⟩, q⟩) hz
  cases rd with
  | none => exact PySem.P.repr_of_none ⟨.str _, H, I.tok _, ⟨_, rfl⟩, q⟩
  | bool b => exact PySem.P.repr_of_bool ⟨.str _, H, I.tok _, ⟨_, rfl⟩, q⟩
  | int i t => exact PySem.P.repr_of_int (by simpa [PyData.showable] using hs) ⟨.str _, H, I.tok _, ⟨_, rfl⟩, q⟩
  | str y t => exact PySem.P.repr_of_str ⟨.str _, H, I.tok _, ⟨_, rfl⟩, q⟩ hz
  | list _ _ _ _ => exact obj _ rfl
  | tuple _ _ _ _ => exact obj _ rfl
  | dict _ _ _ _ _ => exact obj _ rfl
end GL

/-! errors of the text's own with one field, over any base; the first store into such an object; isinstance of a caught one -/
namespace GL
open PySem L2 PySem.Spec PyProof.Rows PySem.W Builtin Builtin.ObjectAttr

section
variable {prog : Program} {w : World} {A : Around} {R : Result → Shared → Prop} {K : Frag} {B : String} {bmB : List Value}
/-- the first attribute of an error -/
theorem first_store {s : Shared} {name : Str} {tk : Tok} {v : Value} {x C t0 : Addr} (SF : StoreFacts B bmB "object.__setattr__" "object") (X : K.In s.heap)
    (hx : s.heap.get? x = some (HandSPX.excO C t0)) (over : excOver K C bmB = true) (tk0 : takerIn K C name = some none) (hd : hasDictIn K C = true)
    (hq : ∀ h' tk' dx, (∀ b o, b ≠ x → s.heap.get? b = some o → h'.get? b = some o) → s.heap.objs.size ≤ dx → dx ≠ x →
      h'.get? x = some { cls := .ref C, dict := some dx, data := .fields #[.ref t0, .none, .none, .none, .bool false, .none] } →
      h'.Ns1 dx (fun y => if y = name then some v else none) → R (.ok (.ret .none)) { s with heap := h', toks := tk' }) :
    codeAny (model prog w) A (.call (.builtin "object.__setattr__") ⟨[.ref x, .str name tk, v], []⟩) R s := by
  refine osa_openX (ox := HandSPX.excO C t0) (od := none) SF X ⟨hx, rfl, rfl, trivial⟩ over tk0 fun b => ?_
  unfold hasDictIn at hd
  obtain ⟨cd, hc, hd'⟩ := any_some hd
  have small : x < s.heap.objs.size := Heap.lt_size hx
  have ne : x ≠ s.heap.objs.size := Nat.ne_of_lt small
  obtain ⟨hp, g, d, t, os⟩ := s
  refine wpAny_bind (wpAny_pure (wpAny_bind (instanceDict_exc (t := t0) (c2 := .none) hx (looks_clsIn X hc) hd' ?_)))
  show wpAny _ _ (storeInDict hp.objs.size (.str name tk) name v) _ _ _
  refine HandSPX.store_in_new ?_ ?_
  · exact ⟨_, #[], _, (Heap.get?_update_ne _ _ _ _ ne.symm).trans (Heap.get?_push_at rfl rfl), rfl, fun e he => absurd he (by simp), fun _ => rfl⟩
  · intro h' tk' hn same
    refine hq h' tk' hp.objs.size (fun b o hb ho => ?_) (Nat.le_refl _) ne.symm ?_ hn
    · exact (same.2 b (Nat.ne_of_lt (Heap.lt_size ho))).trans ((Heap.get?_update_ne _ _ _ _ hb).trans (Heap.get?_push_of_some _ ho))
    · exact (same.2 x ne).trans (Heap.get?_update_self _ (Heap.get?_push_of_some _ hx) rfl)
end

/-- the shape of __init__: the one parameter is stored under its own name -/
structure Init1 (st : Stmt) (qual fld : Str) : Prop where
  body : ∃ q1 q2 q3 q4, defBody st = [.Assign [.Attribute (.Name "self" q1) fld q2] (.Name fld q3) q4]
  n1 : List.lookup (Str.ofString "self") (defScope st).names = some NameKind.local
  n2 : List.lookup fld (defScope st).names = some NameKind.local
  kind : (defScope st).kind = .function
  co : (defScope st).isCoroutine = false
  gen : (defScope st).isGenerator = false
  ne : fld ≠ "self"
  dbg : (fld == ("__debug__" : Str)) = false
  bind : ∀ (doc pm : Value) (an : Option Addr) (cdv ct a v : Value), bindArgs (fnOf "__init__" qual (defArgs st) (defBody st) (defScope st) .none .none doc pm an cdv ct) ⟨[a, v], []⟩ = pure [(Str.ofString "self", a), (fld, v)]
  k1 : ∀ (L f : Addr) (cd : Value), (envOfC qual (defScope st) L f cd).kindOf "self" = some .local
  k2 : ∀ (L f : Addr) (cd : Value), (envOfC qual (defScope st) L f cd).kindOf fld = some .local
  sw : ∀ (L f : Addr) (cd : Value) (q1 q2 q3 q4 : Pos), swapsWith (.Name fld q3) (some (.Attribute (.Name "self" q1) fld q2)) q4.line (envOfC qual (defScope st) L f cd) = pure false

/-- what the text says of an error class x with the one field fld, over the built-in class B -/
structure ErrTxt (K : Frag) (mg : Str → Option Value) (C fI : Addr) (x fld : Str) (B newId : String) (bmB : List Value) : Prop where
  gC : mg x = some (.ref C)
  cls : ∃ nm q N bs bm sn sub ab col dd k0 k1 k2 k3 k5, K.lookup C = some (excClassObj nm q C N bs bm true sn sub ab col dd k0 k1 k2 k3 k5 newId) ∧ excTail bmB bm = true
  FB : ∃ initId, ExcBaseFacts B newId initId bmB
  SF : StoreFacts B bmB "object.__setattr__" "object"
  over : excOver K C bmB = true
  sa : findIn K (.ref C) "__setattr__" = some (some (.builtin "object.__setattr__"))
  ga : findIn K (.ref C) "__getattribute__" = some (some (.builtin "BaseException.__getattribute__"))
  gg : findIn K (.ref C) "__getattr__" = some none
  noN : findIn K (.ref C) fld = some none
  iC : findIn K (.ref C) "__init__" = some (some (.ref fI))
  tC : typeIn K (.ref fI) = some (.type "function")
  kC : keepIn K (.ref C) = true
  exC : subIn K (.ref C) (.type "BaseException") = some true
  tyC : typeIn K (.ref C) = some (.type "type")
  hdC : hasDictIn K C = true
  te : exmOne K (.ref C) (.ref C) = some true
  cc : findIn K (.ref C) "__class__" = some (some (.builtin "object.__class__"))
  cn : specialIn K (.builtin "object.__class__") "__get__" = some (some (.builtin "getset_descriptor.__get__"))
  ct : takesIn K (.builtin "object.__class__") = some true
  cm : mroIn K C (.type "object") = some true
  fn : ∃ (oc : Value) (od : Option Addr) (doc pm : Value) (an : Option Addr) (cdv ct : Value) (osl : Array (Option Value)) (st : Stmt) (qual : Str),
    K.lookup fI = some ⟨oc, od, .func (fnOf "__init__" qual (defArgs st) (defBody st) (defScope st) .none .none doc pm an cdv ct), osl⟩ ∧ codeIn K cdv qual = true ∧ Init1 st qual fld

theorem one_le (v : Value) : [v].length ≤ sizeLine := by
  rw [sizeLine_eq]
  exact (by decide : 1 ≤ 16777216)
/-- what __init__ leaves -/
structure InitLeft (h h' : Heap) (x C dx t1 : Addr) (fld : Str) (v : Value) : Prop where
  keep : ∀ b o, b ≠ x → h.get? b = some o → h'.get? b = some o
  obj : h'.get? x = some { cls := .ref C, dict := some dx, data := .fields #[.ref t1, .none, .none, .none, .bool false, .none] }
  dbig : h.objs.size ≤ dx
  dne : dx ≠ x
  ns : h'.Ns1 dx (fun y => if y = fld then some v else none)
/-- a made error -/
structure ErrMade (h h' : Heap) (e C d : Addr) (fld : Str) (v : Value) : Prop where
  keep : ∀ b o, h.get? b = some o → h'.get? b = some o
  new : h.objs.size ≤ e
  obj : ∃ oe vs, h'.get? e = some oe ∧ oe.cls = .ref C ∧ oe.dict = some d ∧ oe.data = .fields vs ∧ vs[1]? = some .none
  dbig : h.objs.size ≤ d
  dne : d ≠ e
  ns : h'.Ns1 d (fun y => if y = fld then some v else none)
section
variable {prog : Program} {w : World} {A : Around} {E : Value → Shared → Prop} {R : Result → Shared → Prop} {s : Shared} {K : Frag} {mg : Str → Option Value} {C fI : Addr}
  {x fld : Str} {B newId : String} {bmB : List Value}
theorem ld_local {M : Model} {name : Str} {scope : Scope} {L a : Addr} {cd : Value} {m : Str → Option Value} {y : Str} {pos : Pos} {v : Value} {Q : Value → Shared → Prop}
    (hn : s.heap.Ns L m) (hv : m y = some v) (h : Q v s) (hk : scope.kind = .function) (hl : (envOfC name scope L a cd).kindOf y = some .local) (hd : (y == ("__debug__" : Str)) = false) :
    wpAny M A (eval (.Name y pos) (envOfC name scope L a cd)) Q E s := wpAny_Name (wpAny_loadName_local hk hl hn hv h) hd
theorem err_init (T : ErrTxt K mg C fI x fld B newId bmB) {e t0 : Addr} {v : Value} (X : K.In s.heap) (hlim : s.heap.NoLimit) (hx : s.heap.get? e = some (HandSPX.excO C t0))
    (hnx : K.lookup e = none) (hroom : A.depth < recursionLimit)
    (hq : ∀ h' tk dx, InitLeft s.heap h' e C dx t0 fld v → R (.ok (.ret .none)) { s with heap := h', toks := tk }) :
    codeAny (model prog w) A (.call (.ref fI) ⟨[.ref e, v], []⟩) R s := by
  obtain ⟨oc, od, doc, pm, an, cdv, ct, osl, st, qual, ho, hcd, S⟩ := T.fn
  obtain ⟨q1, q2, q3, q4, hbody⟩ := S.body
  refine Att.call_fn (binds := [(Str.ofString "self", .ref e), (fld, v)]) X hlim ho hcd hroom (BindsTo.of_eq (S.bind doc pm an cdv ct (.ref e) v)) ?_ (fun s₁ IC => ?_) S.co S.gen S.kind
  · simp [S.n1, S.n2]
  obtain ⟨h₁, tk₁, rfl⟩ := IC.toInCall.same
  have k : ∀ b o, s.heap.get? b = some o → h₁.get? b = some o := IC.toInCall.keep
  have hn := IC.toInCall.ns
  have neL : s.heap.objs.size ≠ e := Nat.ne_of_gt (Heap.lt_size hx)
  have X₁ : K.In h₁ := X.keeps k
  have hx₁ := k _ _ hx
  rw [hbody]
  refine wpAny_execs_cons (plainObj_wpAny_Assign_Attribute ?_ (S.sw _ _ _ _ _ _ _))
  refine ld_local (v := v) hn ?_ (ld_local (v := .ref e) hn ?_ ?_ S.kind (S.k1 _ _ _) (by decide)) S.kind (S.k2 _ _ _) S.dbg
  · simp [bindL, S.k1, S.k2]
  · simp [bindL, S.k1, S.k2, Ne.symm S.ne]
  refine set_plain X₁ (ox := HandSPX.excO C t0) (od := none) ⟨hx₁, rfl, rfl, trivial⟩ T.sa ?_
  refine first_store (s := ⟨h₁, s.gens, s.drawn, tk₁ + 1, s.os⟩) T.SF X₁ hx₁ T.over (by unfold takerIn; rw [T.noN]; rfl) T.hdC (fun h₃ tk₃ dx k₃ dn dne hx₃ hn₃ => ?_)
  show wpAny _ _ (execs _ _) _ _ _
  have z : s.heap.objs.size < h₁.objs.size := hn.lt
  exact wpAny_execs_nil (hq h₃ tk₃ dx ⟨fun b o hb q => k₃ b o hb (k b o q), hx₃, Nat.le_of_lt (Nat.lt_of_lt_of_le z dn), dne, hn₃⟩)
theorem err_made (T : ErrTxt K mg C fI x fld B newId bmB) {v : Value} (X : K.In s.heap) (hlim : s.heap.NoLimit) (hroom : A.depth + 1 < recursionLimit)
    (hq : ∀ h' tk e d, ErrMade s.heap h' e C d fld v → R (.ok (.ret (.ref e))) { s with heap := h', toks := tk }) :
    codeAny (model prog w) A (.call (.ref C) ⟨[v], []⟩) R s := by
  obtain ⟨nm, q, N, bs, bm, sn, sub, ab, col, dd, k0, k1, k2, k3, k5, hC, hbm⟩ := T.cls
  obtain ⟨initId, FB⟩ := T.FB
  obtain ⟨hp, g, dr, tk, os⟩ := s
  have k : ∀ b o, hp.get? b = some o → ((hp.push (kdv_tup [v])).push (HandSPX.excO C hp.objs.size)).get? b = some o := fun b o q =>
    Heap.get?_push_of_some _ (Heap.get?_push_of_some _ q)
  have here : ((hp.push (kdv_tup [v])).push (HandSPX.excO C hp.objs.size)).get? (hp.objs.size + 1) = some (HandSPX.excO C hp.objs.size) := by heap_get
  have fresh : K.lookup (hp.objs.size + 1) = none := by
    cases q : K.lookup (hp.objs.size + 1) with
    | none => rfl
    | some o => exact absurd (Nat.lt_of_succ_lt (Heap.lt_size (X _ _ q : hp.get? (hp.objs.size + 1) = some o))) (Nat.lt_irrefl _)
  refine HandSPX.call_own FB (fun Y => excTail_contains Y bm hbm) (X _ _ hC) (looks_findIn X T.iC) (fun self => bind_fn X self T.tC) (one_le v) ?_
  refine err_init (s := ⟨(hp.push (kdv_tup [v])).push (HandSPX.excO C hp.objs.size), g, dr, tk, os⟩) T (X.keeps k) (hlim.keeps k) here fresh ?_ ?_
  · exact hroom
  · rintro h' tk' dx ⟨k', hx, dn, dne, hns⟩
    have big : hp.objs.size + 1 + 1 ≤ dx := by
      have q := dn
      rw [Heap.size_push, Heap.size_push] at q
      exact q
    refine ⟨rfl, hq h' tk' (hp.objs.size + 1) dx ⟨fun b o q => ?_, Nat.le_succ _, ⟨_, _, hx, rfl, rfl, rfl, rfl⟩, Nat.le_trans (Nat.le_trans (Nat.le_succ _) (Nat.le_succ _)) big, dne, hns⟩⟩
    exact k' b o (Nat.ne_of_lt (Nat.lt_succ_of_lt (Heap.lt_size q))) (k b o q)
end

theorem relO_one {fld : Str} {v : V} {v' : Value} (r : RelV v v') (f : Str) : RelO (List.lookup f [(fld, v)]) (if f = fld then some v' else none) := by
  by_cases hw : f = fld
  · subst hw
    rw [if_pos rfl]
    simp only [List.lookup, BEq.rfl]
    exact r
  · rw [if_neg hw]
    have q : (f == fld) = false := by simpa using hw
    simp only [List.lookup, q]
    trivial
section
variable {X : Cx} {C fI : Addr} {x fld : Str} {B newId : String} {bmB : List Value}
/-- x(e), an error's making -/
def tErr (C : Addr) (fld : Str) (ta : TA) : L2.St → Hp → XK → Prop := fun σ H Q => ta σ H fun vs H1 => ∃ v, vs = [v] ∧ ∀ d, H1 d = none → Q (.ref C) (some d) (upd H1 d (.xd [(fld, v)]))
theorem pmk_err {a : Expr} {ta : TA} {p pos : Pos} {k : Nat} (T : ErrTxt X.K X.mg C fI x fld B newId bmB) (hr : Room k X.A) (ha : PA X [a] ta) (hg : Gl X x := by rfl)
    (hdb : (x == ("__debug__" : Str)) = false := by decide)
    (he : starEach (a :: []) X.env = (false, eval a X.env) :: starEach [] X.env := by rfl) (hpl : (backTo pos (starEach [] X.env)).any (·.1) = false := by rfl) :
    PMk X (.Call (.Name x p) [a] [] pos) (tErr C fld ta) := by
  intro pins s σ H Q I h
  refine wpAny_Call_Name_kw (ld_glob I hg T.gC ?_ hdb)
  refine callWith_K (h₀ := X.base) I.ok.mod.kin T.kC (thn (ha.run pos pins s σ H _ I h) ?_) he hpl
  rintro us s1 ⟨vs, H1, I1, r1, v, ev, q1⟩
  subst ev
  refine ⟨I1.kIn, ?_⟩
  obtain ⟨v', rfl, rv⟩ := vals1 r1
  show wpAny _ _ (call (.ref C) [v']) _ _ _
  have hlim := I1.nolimit
  have room : X.A.depth + 1 < recursionLimit := by
    have := hr.dp
    omega
  obtain ⟨hp, g, dr, tk, os⟩ := s1
  refine wpAny_call (err_made T I1.kIn hlim room ?_)
  intro h' tk' e d M
  show MkP X pins σ Q (.ref e) ⟨h', g, dr, tk', os⟩
  obtain ⟨oe, fv, hoe, hc, hd, hdat, h1⟩ := M.obj
  obtain ⟨G', g1, g2⟩ := restrict h' fun b => decide (b ≠ e)
  have gk : ∀ b, b ≠ e → G'.get? b = h'.get? b := fun b hb => g1 b (decide_eq_true hb)
  have ge : G'.get? e = none := g2 e (by simp)
  have old : ∀ b o, hp.get? b = some o → G'.get? b = some o := fun b o q =>
    (gk b (Nat.ne_of_lt (Nat.lt_of_lt_of_le (Heap.lt_size q) M.new))).trans (M.keep b o q)
  have hns := M.ns
  have laid : ObjOk X.prog X.w (upd H1 d (.xd [(fld, v)])) G' d (.xd [(fld, v)]) :=
    ⟨_, hns.at (fun o q => (gk d M.dne).trans q), fun f => relO_one rv f⟩
  have J : Inv X pins σ (upd H1 d (.xd [(fld, v)])) ⟨G', g, dr, tk', os⟩ := I1.laid (t' := tk') old M.dbig laid
  refine ⟨e, oe, fv, ⟨G', g, dr, tk', os⟩, _, .ref C, some d, rfl, J, ?_, ge, hoe, ⟨hc, hd⟩, hdat, h1, ?_, rfl, I1.bare, raises_own T.exC T.tyC, q1 d (I1.hok.fresh M.dbig)⟩
  · intro b o q
    have q' : G'.get? b = some o := q
    by_cases hb : b = e
    · rw [hb, ge] at q'
      cases q'
    · exact (gk b hb).symm.trans q'
  · rw [upd_ne (Ne.symm M.dne)]
    exact I1.hok.fresh M.new
/-- raise x(e) -/
def tRaiseErr (C : Addr) (fld : Str) (W : WX) (ta : TA) : TS := fun _ σ H => tErr C fld ta σ H fun cls d H' => W cls d σ H'
theorem ps_raiseErr {a : Expr} {ta : TA} {W : WX} {p pos pos2 : Pos} {k : Nat} (hc : X.calm = true) (T : ErrTxt X.K X.mg C fI x fld B newId bmB) (hr : Room k X.A)
    (tk : Takes X W) (ha : PA X [a] ta) (hg : Gl X x := by rfl) (hdb : (x == ("__debug__" : Str)) = false := by decide)
    (he : starEach (a :: []) X.env = (false, eval a X.env) :: starEach [] X.env := by rfl) (hpl : (backTo pos (starEach [] X.env)).any (·.1) = false := by rfl) :
    PS X (.Raise (some (.Call (.Name x p) [a] [] pos)) none pos2) (tRaiseErr C fld W ta) := ps_raise hc tk (pmk_err T hr ha hg hdb he hpl)
/-- e.fld, e the error that the suite holds (at a; its class cls, its dict d) -/
def tErrFld (C : Addr) (fld : Str) (a : Addr) (cls : Value) (d : Option Addr) (te : TE) : TE := fun σ H Q => te σ H fun x H1 => x = .ref a ∧ cls = .ref C ∧ ∃ (dd : Addr) (v : V), d = some dd ∧
  H1 dd = some (.xd [(fld, v)]) ∧ Q v H1
theorem pe_errFld {a : Addr} {oe : Obj} {cls : Value} {d : Option Addr} {pn : List (Addr × Obj)} {e : Expr} {te : TE} {pos : Pos} (T : ErrTxt X.K X.mg C fI x fld B newId bmB)
    (hz : Zc cls d oe) (hf : ∃ vs, oe.data = .fields vs) (he : PE (X.suite a ((a, oe) :: pn)) e te)
    (hb : attributeBase e fld X.env (eval e X.env) = eval e X.env := by rfl) :
    PE (X.suite a ((a, oe) :: pn)) (.Attribute e fld pos) (tErrFld C fld a cls d te) := by
  constructor
  intro pins s σ H Q I h
  refine attr_of hb (thn (he.run pins s σ H _ I h) ?_)
  rintro u s1 ⟨y, H1, I1, ry, ey, ec, dd, v, ed, ea, q⟩
  subst ey ec ed
  obtain rfl : u = Value.ref a := ry
  obtain ⟨ha, _⟩ := I1.pin (a, oe) (List.mem_append_left _ List.mem_cons_self)
  obtain ⟨vs, hd⟩ := hf
  obtain ⟨mA, hns, hr⟩ := (show ObjOk X.prog X.w H1 s1.heap dd (.xd [(fld, v)]) from I1.hok dd _ ea)
  obtain ⟨od, ho, hl⟩ := lookIn_ns hns
  have l : List.lookup fld [(fld, v)] = some v := by simp [List.lookup]
  obtain ⟨u, hu, ru⟩ := RelO.some_of (v := v) (o := mA fld) (by rw [← l]; exact hr fld)
  have J : W.InstAt s1.heap a oe C (some od) := ⟨ha, hz.1, by unfold notCls; rw [hd] <;> rfl, by rw [hz.2]; exact ho⟩
  exact HandSPX.exc_get I1.kIn J T.ga T.gg T.exC (findObj_own T.hdC T.noN rfl (by rw [hl, hu])) (handed_of ru) ⟨v, H1, I1.tok _, ru, q⟩
/-- isinstance(e, c), e the error that the suite holds -/
def rErrIs (K : Frag) (C a : Addr) (cls : Value) (d : Option Addr) : List V → Hp → VK → Prop := fun xs H Q => ∃ (c : V) (u : Value) (b : Bool) (dd : Addr) (v : V) (fld : Str), xs = [.ref a, c] ∧ cls = .ref C ∧ d = some dd ∧
  H dd = some (.xd [(fld, v)]) ∧ ClsV c u ∧ kitOne K (.ref C) u = some b ∧ Q (.bl b) H
theorem call_errIs {a : Addr} {oe : Obj} {cls : Value} {d : Option Addr} {pn : List (Addr × Obj)} (T : ErrTxt X.K X.mg C fI x fld B newId bmB)
    (hz : Zc cls d oe) (hf : ∃ vs, oe.data = .fields vs) : CallR (X.suite a ((a, oe) :: pn)) (.builtin "isinstance") (rErrIs X.K C a cls d) := by
  intro pins s σ H xs us Q I r h
  obtain ⟨c, u, b, dd, v, fld, rfl, ec, ed, ea, k, e, q⟩ := h
  subst ec ed
  obtain ⟨u1, u2, rfl, r1, r2⟩ := vals2 r
  cases (show u1 = Value.ref a from r1)
  have e2 := k.eq r2
  subst e2
  obtain ⟨ha, _⟩ := I.pin (a, oe) (List.mem_append_left _ List.mem_cons_self)
  obtain ⟨vs, hd⟩ := hf
  obtain ⟨mA, hns, hr⟩ := (show ObjOk X.prog X.w H s.heap dd (.xd [(fld, v)]) from I.hok dd _ ea)
  obtain ⟨od, ho, hl⟩ := lookIn_ns hns
  have J : W.InstAt s.heap a oe C (some od) := ⟨ha, hz.1, by unfold notCls; rw [hd] <;> rfl, by rw [hz.2]; exact ho⟩
  have ic : (clsIn X.K C).isSome = true := by
    have h0 := T.hdC
    unfold hasDictIn at h0
    obtain ⟨cd, hc, _⟩ := any_some h0
    rw [hc]
    rfl
  exact kia_one (kitx_exc ic T.ga T.gg T.exC T.cc T.cn T.ct T.cm) I.kIn J e (fun z => nomatch z) fun tk => ⟨.bl b, H, I.tok tk, rfl, q⟩
end
end GL

/-! a def of the text with its name; operators on great integers; what kind a value is -/
namespace GL
open PySem L2 PySem.Spec PyProof.Rows

/-- a def of the text: where it stands, what its name holds, how its arguments bind -/
structure Df (K : PySem.W.Frag) (mg : Str → Option Value) (x : Str) (st : Stmt) (ps : List Str) (f : Addr) (fd : FuncData) : Prop where
  F : Fun K x x st f fd
  g : mg x = some (.ref f)
  b : Binds K fd ps []

section
variable {X : Cx}
theorem iop_mulW : OpR X (inplaceOp .Mult) (rI CMulW fun i j => .int (i * j)) := opI fun _ _ _ _ _ _ _ hc q => imul_int q hc.ok
/-- i ** j, together below 2 ^ 27 bits -/
def CPowW (i j : Int) : Prop := 0 ≤ j ∧ (Builtin.Int.intBits i : Int) * j ≤ 2 ^ 27
theorem op_powW : OpR X (binaryOp .Pow) (rI CPowW fun i j => .int (i ^ j.toNat)) := opI fun _ _ _ _ _ _ _ hc q => pow_int hc.1 hc.2 q
end

/-- what stands at a value, as far as isinstance(.., int), (.., bool), (.., tuple) see it; an integer's value -/
inductive Kd (K : PySem.W.Frag) (H : Hp) : V → Option Int → Prop
  | non : Kd K H .non none
  | bl (b : Bool) : Kd K H (.bl b) none
  | int (i : Int) : Kd K H (.int i) (some i)
  | str (x : Str) : Kd K H (.str x) none
  | lst {a : Addr} {xs : List V} : SqL K H a xs → Kd K H (.ref a) none
  | tup {a : Addr} {xs : List V} : SqT K H a xs → Kd K H (.ref a) none
  | dic {a : Addr} {kvs : List (Key × V)} : H a = some (.dK kvs) → Kd K H (.ref a) none
theorem tyx_lst {K : PySem.W.Frag} {H : Hp} {a : Addr} {xs : List V} (h : SqL K H a xs) : TyX K H (.ref a) (.type "list") := by
  rcases h with (h | ⟨o, h⟩) | ⟨o, its, n, h1, h2, _⟩
  · exact .base (.lst h)
  · exact .base (.frz h)
  · exact .kList h1 h2
theorem tyx_tup {K : PySem.W.Frag} {H : Hp} {a : Addr} {xs : List V} (h : SqT K H a xs) : TyX K H (.ref a) (.type "tuple") := by
  rcases h with (h | ⟨o, h⟩) | ⟨o, its, n, h1, h2, _⟩
  · exact .base (.tup h)
  · exact .fTuple h
  · exact .kTuple h1 h2
/-- the two questions of «an integer that is no bool» -/
theorem Kd.ask {K : PySem.W.Frag} {H : Hp} {v : V} {o : Option Int} (h : Kd K H v o) : ∃ t b1 b2, TyX K H v (.type t) ∧ kitB t "int" = some b1 ∧ kitB t "bool" = some b2 ∧ (b1 && !b2) = o.isSome := by
  cases h with
  | non => exact ⟨"NoneType", false, false, .base .non, by decide +kernel, by decide +kernel, rfl⟩
  | bl b => exact ⟨"bool", true, true, .base (.bl b), by decide +kernel, by decide +kernel, rfl⟩
  | int i => exact ⟨"int", true, false, .base (.int i), by decide +kernel, by decide +kernel, rfl⟩
  | str x => exact ⟨"str", false, false, .base (.str x), by decide +kernel, by decide +kernel, rfl⟩
  | lst h => exact ⟨"list", false, false, tyx_lst h, by decide +kernel, by decide +kernel, rfl⟩
  | tup h => exact ⟨"tuple", false, false, tyx_tup h, by decide +kernel, by decide +kernel, rfl⟩
  | dic h => exact ⟨"dict", false, false, .base (.dK h), by decide +kernel, by decide +kernel, rfl⟩
theorem Kd.int_of {K : PySem.W.Frag} {H : Hp} {v : V} {i : Int} (h : Kd K H v (some i)) : v = .int i := by cases h; rfl
/-- an integer's value in data -/
def intD : PyData → Option Int
  | .int i => some i
  | _ => none
theorem Dp.kd {K : PySem.W.Frag} {H : Hp} {v : V} {d : PyData} (h : Dp K H v d) : Kd K H v (intD d) := by
  cases h with
  | non => exact .non
  | bl b => exact .bl b
  | int i => exact .int i
  | str x => exact .str x
  | lst h _ => exact .lst h
  | tup h _ => exact .tup h
theorem Mix1.kd {K : PySem.W.Frag} {H : Hp} {v : V} {d : PyData} (h : Mix1 H v d) : Kd K H v (intD d) := by
  cases h with
  | flat f =>
    cases v with
    | non => exact .non
    | bl b => exact .bl b
    | int i => exact .int i
    | str x => exact .str x
    | _ => cases f
  | dic h _ => exact .dic h
/-- the items of a tuple, by their data -/
inductive KdAll (K : PySem.W.Frag) (H : Hp) : List V → List PyData → Prop
  | nil : KdAll K H [] []
  | cons {v : V} {vs : List V} {d : PyData} {ds : List PyData} : Kd K H v (intD d) → KdAll K H vs ds → KdAll K H (v :: vs) (d :: ds)
theorem kdAll_dp {K : PySem.W.Frag} {H : Hp} : ∀ {vs : List V} {ds : List PyData}, DpAll K H vs ds → KdAll K H vs ds
  | _, _, .nil => .nil
  | _, _, .cons h t => .cons (Dp.kd h) (kdAll_dp t)
theorem kdAll_mix {K : PySem.W.Frag} {H : Hp} : ∀ {vs : List V} {ds : List PyData}, MixAll H vs ds → KdAll K H vs ds
  | _, _, .nil => .nil
  | _, _, .cons h t => .cons (Mix1.kd h) (kdAll_mix t)
theorem kdAll_len {K : PySem.W.Frag} {H : Hp} : ∀ {xs : List V} {ds : List PyData}, KdAll K H xs ds → xs.length = ds.length
  | _, _, .nil => rfl
  | _, _, .cons _ t => congrArg Nat.succ (kdAll_len t)
theorem kdAll_two {K : PySem.W.Frag} {H : Hp} {xs : List V} {ds : List PyData} (h : KdAll K H xs ds) (h2 : ds.length = 2) :
    ∃ x y d e, xs = [x, y] ∧ ds = [d, e] ∧ Kd K H x (intD d) ∧ Kd K H y (intD e) := by
  cases h with
  | nil => cases h2
  | cons h1 t =>
    cases t with
    | nil => cases h2
    | cons g1 t =>
      cases t with
      | nil => exact ⟨_, _, _, _, rfl, rfl, h1, g1⟩
      | cons _ _ => simp at h2
/-- isinstance(v, tuple) -/
theorem tuple_ask {K : PySem.W.Frag} {H : Hp} {v : V} {d : PyData} (h : ShD K H v d) :
    (∃ a xs ds, v = .ref a ∧ SqT K H a xs ∧ KdAll K H xs ds ∧ d = .tuple ds ∧ TyX K H v (.type "tuple")) ∨
    (∃ t, TyX K H v (.type t) ∧ kitB t "tuple" = some false ∧ ∀ ds, d ≠ .tuple ds) := by
  cases h with
  | data h =>
    cases h with
    | non => exact .inr ⟨"NoneType", .base .non, by decide +kernel, fun _ z => nomatch z⟩
    | bl b => exact .inr ⟨"bool", .base (.bl b), by decide +kernel, fun _ z => nomatch z⟩
    | int i => exact .inr ⟨"int", .base (.int i), by decide +kernel, fun _ z => nomatch z⟩
    | str x => exact .inr ⟨"str", .base (.str x), by decide +kernel, fun _ z => nomatch z⟩
    | lst h _ => exact .inr ⟨"list", tyx_lst h, by decide +kernel, fun _ z => nomatch z⟩
    | tup h g => exact .inl ⟨_, _, _, rfl, h, kdAll_dp g, rfl, tyx_tup h⟩
  | mix h =>
    cases h with
    | flat f =>
      cases v with
      | non => exact .inr ⟨"NoneType", .base .non, by decide +kernel, fun _ z => nomatch z⟩
      | bl b => exact .inr ⟨"bool", .base (.bl b), by decide +kernel, fun _ z => nomatch z⟩
      | int i => exact .inr ⟨"int", .base (.int i), by decide +kernel, fun _ z => nomatch z⟩
      | str x => exact .inr ⟨"str", .base (.str x), by decide +kernel, fun _ z => nomatch z⟩
      | _ => cases f
    | dic h _ => exact .inr ⟨"dict", .base (.dK h), by decide +kernel, fun _ z => nomatch z⟩
  | tup h g => exact .inl ⟨_, _, _, rfl, h, kdAll_mix g, rfl, tyx_tup h⟩
/-- data stays where all that was tracked stays -/
theorem sqT_same {K : PySem.W.Frag} {H H' : Hp} {a : Addr} {xs : List V} (e : Same H H') (h : SqT K H a xs) : SqT K H' a xs := by
  rcases h with (h | ⟨o, h⟩) | h
  · exact .inl (.inl (e _ _ h))
  · exact .inl (.inr ⟨o, e _ _ h⟩)
  · exact .inr h
theorem dp_same {K : PySem.W.Frag} {H H' : Hp} (e : Same H H') {v : V} {d : PyData} (h : Dp K H v d) : Dp K H' v d := by
  induction h using Dp.rec (motive_2 := fun vs ds _ => DpAll K H' vs ds) with
  | non => exact .non
  | bl b => exact .bl b
  | int i => exact .int i
  | str x => exact .str x
  | lst h _ ih => exact .lst (e.seq h) ih
  | tup h _ ih => exact .tup (sqT_same e h) ih
  | nil => exact .nil
  | cons _ _ h1 h2 => exact .cons h1 h2
theorem mix_same {H H' : Hp} (e : Same H H') {v : V} {d : PyData} (h : Mix1 H v d) : Mix1 H' v d := by
  cases h with
  | flat f => exact .flat f
  | dic h f => exact .dic (e _ _ h) f
theorem mixAll_same {H H' : Hp} (e : Same H H') : ∀ {vs : List V} {ds : List PyData}, MixAll H vs ds → MixAll H' vs ds
  | _, _, .nil => .nil
  | _, _, .cons h t => .cons (mix_same e h) (mixAll_same e t)
theorem shd_same {K : PySem.W.Frag} {H H' : Hp} (e : Same H H') {v : V} {d : PyData} (h : ShD K H v d) : ShD K H' v d := by
  cases h with
  | data h => exact .data (dp_same e h)
  | mix h => exact .mix (mix_same e h)
  | tup h g => exact .tup (sqT_same e h) (mixAll_same e g)
theorem same_new {H H' : Hp} {p : Addr} {o : HO} (s : Same H H') (h : H p = none) : Same H (upd H' p o) := fun b u e => by
  rw [upd_ne (fun z => by rw [z, h] at e; cases e)]
  exact s b u e
section
variable {X : Cx}
/-- xs != [], xs == [] -/
def rNeNil (K : PySem.W.Frag) : R2 := fun x y H Q => ∃ a b xs, x = .ref a ∧ y = .ref b ∧ SqL K H a xs ∧ SqL K H b [] ∧ Q (.bl (!xs.isEmpty)) H
def rEqNil (K : PySem.W.Frag) : R2 := fun x y H Q => ∃ a b xs, x = .ref a ∧ y = .ref b ∧ SqL K H a xs ∧ SqL K H b [] ∧ Q (.bl xs.isEmpty) H
theorem op_neNil (hu : X.A.units + 1 < cLine) : OpR X (compareOp .NotEq) (rNeNil X.K) := by
  intro pins s σ H x y v u Q I rx ry h
  obtain ⟨a, b, xs, rfl, rfl, ha, hb, q⟩ := h
  cases rx
  cases ry
  obtain ⟨its, rv, ⟨o, n, ho, hc, _, hd⟩, _⟩ := I.list ha
  obtain ⟨its2, rv2, ⟨o2, n2, ho2, hc2, _, hd2⟩, _⟩ := I.list hb
  cases rv2
  have l1 : s.heap.IsList a its.toArray := ⟨_, ho, hc, n, hd⟩
  have l2 : s.heap.IsList b #[] := ⟨_, ho2, hc2, n2, hd2⟩
  cases rv with
  | nil => exact SeqAt.RcNeAt.lists l1 l2 rfl (by omega) (e := fun _ => true) (fun j h => absurd h (by simp)) _ _ _ _ ⟨.bl _, H, I, rfl, q⟩
  | cons r t => exact SeqAt.RcNeAt.lists_lengths l1 l2 (by simp) (by omega) _ _ _ _ ⟨.bl _, H, I, rfl, q⟩
theorem op_eqNil (hu : X.A.units + 1 < cLine) : OpR X (compareOp .Eq) (rEqNil X.K) := by
  intro pins s σ H x y v u Q I rx ry h
  obtain ⟨a, b, xs, rfl, rfl, ha, hb, q⟩ := h
  cases rx
  cases ry
  obtain ⟨its, rv, ⟨o, n, ho, hc, _, hd⟩, _⟩ := I.list ha
  obtain ⟨its2, rv2, ⟨o2, n2, ho2, hc2, _, hd2⟩, _⟩ := I.list hb
  cases rv2
  have l1 : s.heap.IsList a its.toArray := ⟨_, ho, hc, n, hd⟩
  have l2 : s.heap.IsList b #[] := ⟨_, ho2, hc2, n2, hd2⟩
  cases rv with
  | nil => exact SeqAt.eq_listAt l1 l2 rfl (by omega) (e := fun _ => true) (fun j h => absurd h (by simp)) ⟨.bl _, H, I, rfl, q⟩
  | cons r t => exact SeqAt.eq_list_lengthsAt l1 l2 (by simp) (by omega) ⟨.bl _, H, I, rfl, q⟩
end
section
variable {c A B : Prop} [Decidable c]
theorem ifD (hc : c) (h : A) : if decide c = true then A else B := by
  rw [decide_eq_true hc]
  exact iteT h
theorem ifDn (hc : ¬ c) (h : B) : if decide c = true then A else B := by
  rw [decide_eq_false hc]
  exact iteF h
theorem ifN (hc : ¬ c) (h : A) : if (!decide c) = true then A else B := by
  rw [decide_eq_false hc]
  exact iteT h
theorem ifNn (hc : c) (h : B) : if (!decide c) = true then A else B := by
  rw [decide_eq_true hc]
  exact iteF h
end
theorem vI {i j : Int} (h : i = j) : V.int i = V.int j := congrArg _ h
theorem vIn {i j : Int} (h : ¬ i = j) : ¬ V.int i = V.int j := fun z => h (V.int.inj z)
end GL

/-! data that repr shows within the line -/
namespace GL
open PySem L2 PySem.Spec PyProof.Rows

/-- shown within the line: its depth and its bulk -/
structure Sw (d : PyData) (k b : Nat) : Prop where
  sh : d.showable = true
  lf : d.leavesShort 1921 = true
  dp : d.depth ≤ k
  bk : d.bulk ≤ b
structure SwAll (ds : List PyData) (k b : Nat) : Prop where
  sh : PyData.showableAll ds = true
  lf : PyData.leavesShortAll 1921 ds = true
  dp : PyData.depthAll ds ≤ k
  bk : PyData.bulkAll ds ≤ b
theorem Sw.none : Sw .none 0 0 := ⟨rfl, rfl, Nat.le_refl _, Nat.le_refl _⟩
theorem Sw.bool (b : Bool) : Sw (.bool b) 0 0 := ⟨rfl, rfl, Nat.le_refl _, Nat.le_refl _⟩
theorem Sw.int {i : Int} (h : i.natAbs < 2 ^ 1900) : Sw (.int i) 0 0 := by
  have l : i.natAbs.log2 < 1920 := Nat.lt_of_lt_of_le (PySem.Flt.log2_lt_of (by decide) h) (by decide)
  refine ⟨?_, ?_, Nat.le_refl _, Nat.le_refl _⟩
  · simpa only [PyData.showable, decide_eq_true_eq] using l
  · exact decide_eq_true (int_text_len_1921 l)
theorem Sw.str {x : Str} (h : (x.cps.toList.all fun c => decide (c < 16 ^ 8)) = true) : Sw (.str x) 0 x.cps.size := ⟨rfl, h, Nat.le_refl _, Nat.le_refl _⟩
theorem SwAll.nil : SwAll [] 0 0 := ⟨rfl, rfl, Nat.le_refl _, Nat.le_refl _⟩
theorem SwAll.cons {d : PyData} {ds : List PyData} {k b k' b' : Nat} (h : Sw d k b) (t : SwAll ds k' b') : SwAll (d :: ds) (max k k') (b + 1 + b') := by
  refine ⟨?_, ?_, ?_, ?_⟩
  · simp only [PyData.showableAll, h.sh, t.sh, Bool.and_self]
  · simp only [PyData.leavesShortAll, h.lf, t.lf, Bool.and_self]
  · have h1 := h.dp
    have h2 := t.dp
    simp only [PyData.depthAll]
    omega
  · have h1 := h.bk
    have h2 := t.bk
    simp only [PyData.bulkAll]
    omega
theorem Sw.tuple {ds : List PyData} {k b : Nat} (t : SwAll ds k b) : Sw (.tuple ds) (k + 1) b := by
  refine ⟨?_, ?_, ?_, ?_⟩
  · simpa only [PyData.showable] using t.sh
  · simpa only [PyData.leavesShort] using t.lf
  · have h := t.dp
    simp only [PyData.depth]
    omega
  · simpa only [PyData.bulk] using t.bk
theorem Sw.list {ds : List PyData} {k b : Nat} (t : SwAll ds k b) : Sw (.list ds) (k + 1) b := by
  refine ⟨?_, ?_, ?_, ?_⟩
  · simpa only [PyData.showable] using t.sh
  · simpa only [PyData.leavesShort] using t.lf
  · have h := t.dp
    simp only [PyData.depth]
    omega
  · simpa only [PyData.bulk] using t.bk
theorem Sw.nodict : Sw (.dict []) 1 0 := ⟨rfl, rfl, by simp [PyData.depth, PyData.depthKv], by simp [PyData.bulk, PyData.bulkKv]⟩
theorem Sw.up {d : PyData} {k b k' b' : Nat} (h : Sw d k b) (hk : k ≤ k') (hb : b ≤ b') : Sw d k' b' := ⟨h.sh, h.lf, Nat.le_trans h.dp hk, Nat.le_trans h.bk hb⟩
theorem Sw.len {d : PyData} {k b : Nat} (h : Sw d k b) (hb : b ≤ 5000) : d.shown.length ≤ sizeLine := by
  have e := PyData.shown_le_bulk 1921 (by decide) d h.lf
  have e2 := h.bk
  have e3 : (1921 + 2) * d.bulk ≤ (1921 + 2) * 5000 := Nat.mul_le_mul_left _ (Nat.le_trans e2 hb)
  rw [sizeLine_eq]
  omega
/-- a value that repr shows -/
def Good (K : PySem.W.Frag) (H : Hp) (v : V) : Prop := ∃ d k b, ShD K H v d ∧ Sw d k b ∧ k ≤ 60 ∧ b ≤ 5000
theorem good_same {K : PySem.W.Frag} {H H' : Hp} (e : Same H H') {v : V} (g : Good K H v) : Good K H' v := by
  obtain ⟨d, k, b, h, s, hk, hb⟩ := g
  exact ⟨d, k, b, shd_same e h, s, hk, hb⟩

/-- x == y, x an instance of the class at C with the text's own == -/
def rInsEq (K : PySem.W.Frag) (C : Addr) (sp : Sp) (E : XK) : R2 := fun x y H Q => ∃ a dx fs tb, x = .ref a ∧ H a = some (.ins C dx fs) ∧ TyX K H y tb ∧ PySem.W.notFirst K C tb = true ∧ sp [x, y] H Q E
theorem op_insEq {X : Cx} {cx : CXT} {k : Nat} {C f : Addr} {fd : FuncData} {ps : List Str} {sp : Sp} {E : XK} (F : FnOk X.prog X.w X.K X.mg X.base cx k f fd ps sp) (hr : Room k X.A)
    (hs : PySem.W.findIn X.K (.ref C) "__eq__" = some (some (.ref f))) (hf : PySem.W.isFn X.K (.ref f) = true) (hb : Binds X.K fd ps []) (hx : Passes cx X E) (hu : X.A.units < cLine) :
    OpR X (compareOp .Eq) (rInsEq X.K C sp E) := by
  intro pins s σ H x y v u Q I rx ry h
  obtain ⟨a, dx, fs, tb, rfl, ha, ty, nf, hsp⟩ := h
  cases rx
  obtain ⟨mA, J0, _⟩ := ins_get I.hok ha
  obtain ⟨od, J, _⟩ := J0.look
  obtain ⟨m, hF⟩ := I.fr
  obtain ⟨P, Z, p, _⟩ := kit_of I ry ty
  show wpAny _ _ (richCompare .Eq (.ref a) u) _ _ _
  refine PySem.W.cmp_K (op := .Eq) hu hF I.ok.mod.kin J (Z.ty _ _ I.kIn p) nf hs hf ?_
  have both : Vals [V.ref a, y] [Value.ref a, u] := .cons rfl (.cons ry .nil)
  refine wpAny_mono (run_fn (vs := [V.ref a, y]) (dvs := []) F hr hb .nil hx I both (by simpa using hsp)) ?_ fun _ _ z => z
  rintro w s' ⟨z, H', I', rz, q⟩
  have fin : EP X pins σ Q w s' := ⟨z, H', I', rz, q⟩
  cases w <;> first | exact fin | (exfalso; cases z <;> first | (obtain ⟨_, h⟩ := rz; cases h; done) | (cases rz; done))
end GL

/-! powers, and what is left of a number without its factors -/
namespace NM
open PySem

theorem natAbs_pow (b : Int) : ∀ n : Nat, (b ^ n).natAbs = b.natAbs ^ n
  | 0 => by simp
  | n + 1 => by rw [Int.pow_succ, Int.natAbs_mul, natAbs_pow b n, Nat.pow_succ]
/-- a power of a base up to 36 is small in bits -/
theorem pow_small {b : Int} (h0 : 0 ≤ b) (h : b ≤ 36) (n : Nat) : (b ^ n).natAbs < 2 ^ (6 * n + 1) := by
  rw [natAbs_pow]
  have h1 : b.natAbs ≤ 2 ^ 6 := by omega
  have h2 : b.natAbs ^ n ≤ (2 ^ 6) ^ n := Nat.pow_le_pow_left h1 n
  rw [← Nat.pow_mul] at h2
  calc b.natAbs ^ n ≤ 2 ^ (6 * n) := h2
    _ < 2 ^ (6 * n + 1) := Nat.pow_lt_pow_right (by decide) (by omega)
/-- the bits of a natural number -/
theorem lt_bits (n : Nat) : n < 2 ^ Builtin.Int.intBits (n : Int) := by
  unfold Builtin.Int.intBits
  by_cases h : n = 0
  · subst h
    decide
  · have : ((n : Int) == 0) = false := by simp; omega
    rw [this, if_neg Bool.false_ne_true]
    show n < 2 ^ ((n : Int).natAbs.log2 + 1)
    rw [Int.natAbs_natCast]
    exact Nat.lt_log2_self
theorem bits_le {n m : Nat} (h : n < 2 ^ m) : Builtin.Int.intBits (n : Int) ≤ m := by
  unfold Builtin.Int.intBits
  split
  · omega
  · rename_i h0
    have hn : n ≠ 0 := by
      intro z
      subst z
      exact h0 rfl
    show ((n : Int).natAbs.log2 + 1) ≤ m
    rw [Int.natAbs_natCast]
    exact Nat.succ_le_of_lt ((Nat.log2_lt hn).mpr h)
/-- squaring step: from c >> (k + 1) to c >> k -/
theorem shift_step (c k : Nat) : c / 2 ^ k = 2 * (c / 2 ^ (k + 1)) + c / 2 ^ k % 2 := by
  have : c / 2 ^ (k + 1) = c / 2 ^ k / 2 := by rw [Nat.pow_succ, Nat.div_div_eq_div_mul]
  omega
theorem pow_two_mul (b : Int) (n : Nat) : b ^ n * b ^ n = b ^ (2 * n) := by
  rw [← Int.pow_add]
  congr 1
  omega

theorem sq_succ (b : Int) (m : Nat) : b ^ 2 ^ m * b ^ 2 ^ m = b ^ 2 ^ (m + 1) := by
  rw [← Int.pow_add, Nat.pow_succ]
  congr 1
  omega
theorem pow_pos {b : Int} (h : 2 ≤ b) (e : Nat) : 0 < b ^ e := Int.pow_pos (by omega)
theorem two_pow_le {b : Int} (h : 2 ≤ b) (e : Nat) : 2 ^ e ≤ (b ^ e).natAbs := by
  rw [natAbs_pow]
  exact Nat.pow_le_pow_left (by omega) e
/-- a divisor's exponent is small -/
theorem exp_lt {b n : Int} {e k : Nat} (hb : 2 ≤ b) (h0 : n ≠ 0) (hd : n % b ^ e = 0) (hn : n.natAbs < 2 ^ k) : e < k := by
  have h1 : (b ^ e) ∣ n := Int.dvd_of_emod_eq_zero hd
  have h2 : (b ^ e).natAbs ≤ n.natAbs := Nat.le_of_dvd (by omega) (Int.natAbs_dvd_natAbs.mpr h1)
  have h3 : 2 ^ e < 2 ^ k := Nat.lt_of_le_of_lt (Nat.le_trans (two_pow_le hb e) h2) hn
  exact (Nat.pow_lt_pow_iff_right (by decide)).mp h3
theorem lt_two_pow_12 {m : Nat} (h : 2 ^ m < 7000) : m ≤ 12 := by
  by_cases q : m ≤ 12
  · exact q
  · have : 2 ^ 13 ≤ 2 ^ m := Nat.pow_le_pow_right (by decide) (by omega)
    omega
/-- n is s times b ^ (f * 2 ^ J), and s no more divisible by b ^ 2 ^ J -/
structure Left (b n s : Int) (f J : Nat) : Prop where
  eq : n = s * b ^ (f * 2 ^ J)
  no : s % b ^ 2 ^ J ≠ 0
theorem Left.ne {b n s : Int} {f J : Nat} (L : Left b n s f J) : s ≠ 0 := fun z => L.no (by rw [z]; exact Int.zero_emod _)
theorem Left.le {b n s : Int} {f J : Nat} (hb : 2 ≤ b) (L : Left b n s f J) : s.natAbs ≤ n.natAbs := by
  rw [L.eq, Int.natAbs_mul]
  exact Nat.le_mul_of_pos_right _ (by have := pow_pos hb (f * 2 ^ J); omega)
theorem Left.keep {b n s : Int} {f J : Nat} (L : Left b n s f (J + 1)) (h : s % b ^ 2 ^ J ≠ 0) : Left b n s (f * 2) J := by
  refine ⟨?_, h⟩
  have e : f * 2 * 2 ^ J = f * 2 ^ (J + 1) := by rw [Nat.pow_succ, Nat.mul_assoc, Nat.mul_comm 2]
  rw [e]
  exact L.eq
theorem Left.take {b n s : Int} {f J : Nat} (hb : 2 ≤ b) (L : Left b n s f (J + 1)) (h : s % b ^ 2 ^ J = 0) : Left b n (s / b ^ 2 ^ J) (f * 2 + 1) J := by
  have hp := pow_pos hb (2 ^ J)
  have hs : s = s / b ^ 2 ^ J * b ^ 2 ^ J := (Int.ediv_mul_cancel (Int.dvd_of_emod_eq_zero h)).symm
  constructor
  · have e : (f * 2 + 1) * 2 ^ J = 2 ^ J + f * 2 ^ (J + 1) := by
      rw [Nat.add_mul, Nat.one_mul, Nat.pow_succ, Nat.mul_assoc, Nat.mul_comm 2, Nat.add_comm]
    rw [e, Int.pow_add, ← Int.mul_assoc, ← hs]
    exact L.eq
  · intro z
    apply L.no
    have z2 : s / b ^ 2 ^ J = s / b ^ 2 ^ J / b ^ 2 ^ J * b ^ 2 ^ J := (Int.ediv_mul_cancel (Int.dvd_of_emod_eq_zero z)).symm
    rw [← sq_succ]
    apply Int.emod_eq_zero_of_dvd
    refine ⟨s / b ^ 2 ^ J / b ^ 2 ^ J, ?_⟩
    calc s = s / b ^ 2 ^ J * b ^ 2 ^ J := hs
      _ = s / b ^ 2 ^ J / b ^ 2 ^ J * b ^ 2 ^ J * b ^ 2 ^ J := by rw [← z2]
      _ = _ := by rw [Int.mul_comm, Int.mul_comm (s / b ^ 2 ^ J / b ^ 2 ^ J), Int.mul_assoc]
/-- the form of a number is one: what is left, and how many factors -/
theorem one_form {b n s t : Int} {f g : Nat} (hb : 2 ≤ b) (h1 : n = s * b ^ f) (h2 : s % b ≠ 0) (h3 : n = t * b ^ g) (h4 : t % b ≠ 0) : s = t ∧ f = g := by
  have key : ∀ (s t : Int) (f d : Nat), s * b ^ f = t * b ^ (f + d) → s % b ≠ 0 → d = 0 ∧ s = t := by
    intro s t f d e hs
    rw [Int.pow_add, Int.mul_comm (b ^ f), ← Int.mul_assoc] at e
    have e2 : s = t * b ^ d := Int.eq_of_mul_eq_mul_right (by have := pow_pos hb f; omega) e
    cases d with
    | zero => exact ⟨rfl, by simpa using e2⟩
    | succ d =>
      exfalso
      apply hs
      rw [e2, Int.pow_succ, ← Int.mul_assoc]
      exact Int.mul_emod_left _ _
  rcases Nat.le_total f g with h | h
  · obtain ⟨d, rfl⟩ := Nat.exists_eq_add_of_le h
    obtain ⟨h5, h6⟩ := key s t f d (h1.symm.trans h3) h2
    subst h5
    exact ⟨h6, rfl⟩
  · obtain ⟨d, rfl⟩ := Nat.exists_eq_add_of_le h
    obtain ⟨h5, h6⟩ := key t s g d (h3.symm.trans h1) h4
    subst h5
    exact ⟨h6.symm, rfl⟩
end NM

namespace K01
open PySem L2 GL
def top (i : Nat) : Stmt := PySem.Challenge.pw_abacushead_k01_rows.main.body.getD i (.Pass ⟨0, 0, 0, 0⟩)
abbrev s_InvalidRow_init : Stmt := inClass (top 2) 0
theorem sc_InvalidRow_init : FnScope ["self", "field"] ["self", "field"] (defScope s_InvalidRow_init) := ⟨rfl, rfl, rfl, by decide +kernel, rfl, by decide +kernel, by decide +kernel⟩
abbrev s_InvalidNumber_init : Stmt := inClass (top 3) 0
theorem sc_InvalidNumber_init : FnScope ["self", "value"] ["self", "value"] (defScope s_InvalidNumber_init) := ⟨rfl, rfl, rfl, by decide +kernel, rfl, by decide +kernel, by decide +kernel⟩
abbrev s_is_whole : Stmt := top 6
theorem sc_is_whole : FnScope ["value"] ["value"] (defScope s_is_whole) := ⟨rfl, rfl, rfl, by decide +kernel, rfl, by decide +kernel, by decide +kernel⟩
abbrev s_is_within : Stmt := top 7
theorem sc_is_within : FnScope ["value", "low", "high"] ["value", "low", "high"] (defScope s_is_within) := ⟨rfl, rfl, rfl, by decide +kernel, rfl, by decide +kernel, by decide +kernel⟩
abbrev s_is_place : Stmt := top 8
theorem sc_is_place : FnScope ["value"] ["value"] (defScope s_is_place) := ⟨rfl, rfl, rfl, by decide +kernel, rfl, by decide +kernel, by decide +kernel⟩
abbrev s_Row_init : Stmt := inClass (top 11) 2
theorem sc_Row_init : FnScope ["self", "base", "move", "add", "first", "last", "field"] ["self", "base", "move", "add", "first", "last"] (defScope s_Row_init) := ⟨rfl, rfl, rfl, by decide +kernel, rfl, by decide +kernel, by decide +kernel⟩
abbrev s_Row_eq : Stmt := inClass (top 11) 3
theorem sc_Row_eq : FnScope ["self", "other"] ["self", "other"] (defScope s_Row_eq) := ⟨rfl, rfl, rfl, by decide +kernel, rfl, by decide +kernel, by decide +kernel⟩
abbrev s_Row_base : Stmt := inClass (top 11) 4
theorem sc_Row_base : FnScope ["self"] ["self"] (defScope s_Row_base) := ⟨rfl, rfl, rfl, by decide +kernel, rfl, by decide +kernel, by decide +kernel⟩
abbrev s_Row_move_cost : Stmt := inClass (top 11) 5
theorem sc_Row_move_cost : FnScope ["self"] ["self"] (defScope s_Row_move_cost) := ⟨rfl, rfl, rfl, by decide +kernel, rfl, by decide +kernel, by decide +kernel⟩
abbrev s_Row_add_cost : Stmt := inClass (top 11) 6
theorem sc_Row_add_cost : FnScope ["self"] ["self"] (defScope s_Row_add_cost) := ⟨rfl, rfl, rfl, by decide +kernel, rfl, by decide +kernel, by decide +kernel⟩
abbrev s_Row_first : Stmt := inClass (top 11) 7
theorem sc_Row_first : FnScope ["self"] ["self"] (defScope s_Row_first) := ⟨rfl, rfl, rfl, by decide +kernel, rfl, by decide +kernel, by decide +kernel⟩
abbrev s_Row_last : Stmt := inClass (top 11) 8
theorem sc_Row_last : FnScope ["self"] ["self"] (defScope s_Row_last) := ⟨rfl, rfl, rfl, by decide +kernel, rfl, by decide +kernel, by decide +kernel⟩
abbrev s_Row_has_place : Stmt := inClass (top 11) 9
theorem sc_Row_has_place : FnScope ["self", "value"] ["self", "value"] (defScope s_Row_has_place) := ⟨rfl, rfl, rfl, by decide +kernel, rfl, by decide +kernel, by decide +kernel⟩
abbrev s_invalid_field : Stmt := top 12
theorem sc_invalid_field : FnScope ["base", "move", "add", "first", "last"] ["base", "move", "add", "first", "last"] (defScope s_invalid_field) := ⟨rfl, rfl, rfl, by decide +kernel, rfl, by decide +kernel, by decide +kernel⟩
abbrev s_is_cost : Stmt := top 13
theorem sc_is_cost : FnScope ["value"] ["value"] (defScope s_is_cost) := ⟨rfl, rfl, rfl, by decide +kernel, rfl, by decide +kernel, by decide +kernel⟩
abbrev s_is_end : Stmt := top 14
theorem sc_is_end : FnScope ["value"] ["value"] (defScope s_is_end) := ⟨rfl, rfl, rfl, by decide +kernel, rfl, by decide +kernel, by decide +kernel⟩
abbrev s_law_numbers : Stmt := top 16
theorem sc_law_numbers : FnScope ["_law_cell", "_law_salt", "_law_sizes", "_law_number", "_law_left", "_law_result", "_law_k", "_law_one"] ["_law_cell", "_law_salt", "_law_sizes"] (defScope s_law_numbers) := ⟨rfl, rfl, rfl, by decide +kernel, rfl, by decide +kernel, by decide +kernel⟩
abbrev s_law_end : Stmt := top 17
theorem sc_law_end : FnScope ["_law_digit"] ["_law_digit"] (defScope s_law_end) := ⟨rfl, rfl, rfl, by decide +kernel, rfl, by decide +kernel, by decide +kernel⟩
abbrev s_law_arguments : Stmt := top 18
theorem sc_law_arguments : FnScope ["_law_digits", "_law_ends", "_law_costs"] ["_law_digits"] (defScope s_law_arguments) := ⟨rfl, rfl, rfl, by decide +kernel, rfl, by decide +kernel, by decide +kernel⟩
abbrev s_law_made : Stmt := top 19
theorem sc_law_made : FnScope ["_law_some"] ["_law_some"] (defScope s_law_made) := ⟨rfl, rfl, rfl, by decide +kernel, rfl, by decide +kernel, by decide +kernel⟩
abbrev s_law_error : Stmt := top 20
theorem sc_law_error : FnScope ["_law_some", "_law_result", "e"] ["_law_some"] (defScope s_law_error) := ⟨rfl, rfl, rfl, by decide +kernel, rfl, by decide +kernel, by decide +kernel⟩
abbrev s_law_odd : Stmt := top 21
theorem sc_law_odd : FnScope ["_law_digits", "_law_at", "_law_base", "_law_cost", "_law_end_here"] ["_law_digits", "_law_at"] (defScope s_law_odd) := ⟨rfl, rfl, rfl, by decide +kernel, rfl, by decide +kernel, by decide +kernel⟩
abbrev s_law_has : Stmt := top 22
theorem sc_law_has : FnScope ["_law_some", "_law_value"] ["_law_some", "_law_value"] (defScope s_law_has) := ⟨rfl, rfl, rfl, by decide +kernel, rfl, by decide +kernel, by decide +kernel⟩
abbrev s_law_is_right : Stmt := top 23
theorem sc_law_is_right : FnScope ["_law_some", "_law_row", "_law_values", "_law_value"] ["_law_some"] (defScope s_law_is_right) := ⟨rfl, rfl, rfl, by decide +kernel, rfl, by decide +kernel, by decide +kernel⟩
abbrev s_law_unlike : Stmt := top 24
theorem sc_law_unlike : FnScope ["_law_some", "_law_others", "_law_at", "_law_values", "_law_value", "_law_other"] ["_law_some"] (defScope s_law_unlike) := ⟨rfl, rfl, rfl, by decide +kernel, rfl, by decide +kernel, by decide +kernel⟩
abbrev s_law : Stmt := top 25
theorem sc_law : FnScope ["_law_script", "_law_k", "_law_cell", "_law_digits", "_law_some", "_law_other", "_law_names", "_law_at", "_law_late", "_law_bad", "_law_far", "_law_row", "_law_told"] ["_law_script"] (defScope s_law) := ⟨rfl, rfl, rfl, by decide +kernel, rfl, by decide +kernel, by decide +kernel⟩
structure Tx (K : PySem.W.Frag) (mg : Str → Option Value) where
  f_is_whole : Addr
  fd_is_whole : FuncData
  is_whole : Df K mg "is_whole" s_is_whole ["value"] f_is_whole fd_is_whole
  f_is_within : Addr
  fd_is_within : FuncData
  is_within : Df K mg "is_within" s_is_within ["value", "low", "high"] f_is_within fd_is_within
  f_is_place : Addr
  fd_is_place : FuncData
  is_place : Df K mg "is_place" s_is_place ["value"] f_is_place fd_is_place
  f_invalid_field : Addr
  fd_invalid_field : FuncData
  invalid_field : Df K mg "invalid_field" s_invalid_field ["base", "move", "add", "first", "last"] f_invalid_field fd_invalid_field
  f_is_cost : Addr
  fd_is_cost : FuncData
  is_cost : Df K mg "is_cost" s_is_cost ["value"] f_is_cost fd_is_cost
  f_is_end : Addr
  fd_is_end : FuncData
  is_end : Df K mg "is_end" s_is_end ["value"] f_is_end fd_is_end
  f_law_numbers : Addr
  fd_law_numbers : FuncData
  law_numbers : Df K mg "_law_numbers" s_law_numbers ["_law_cell", "_law_salt", "_law_sizes"] f_law_numbers fd_law_numbers
  f_law_end : Addr
  fd_law_end : FuncData
  law_end : Df K mg "_law_end" s_law_end ["_law_digit"] f_law_end fd_law_end
  f_law_arguments : Addr
  fd_law_arguments : FuncData
  law_arguments : Df K mg "_law_arguments" s_law_arguments ["_law_digits"] f_law_arguments fd_law_arguments
  f_law_made : Addr
  fd_law_made : FuncData
  law_made : Df K mg "_law_made" s_law_made ["_law_some"] f_law_made fd_law_made
  f_law_error : Addr
  fd_law_error : FuncData
  law_error : Df K mg "_law_error" s_law_error ["_law_some"] f_law_error fd_law_error
  f_law_odd : Addr
  fd_law_odd : FuncData
  law_odd : Df K mg "_law_odd" s_law_odd ["_law_digits", "_law_at"] f_law_odd fd_law_odd
  f_law_has : Addr
  fd_law_has : FuncData
  law_has : Df K mg "_law_has" s_law_has ["_law_some", "_law_value"] f_law_has fd_law_has
  f_law_is_right : Addr
  fd_law_is_right : FuncData
  law_is_right : Df K mg "_law_is_right" s_law_is_right ["_law_some"] f_law_is_right fd_law_is_right
  f_law_unlike : Addr
  fd_law_unlike : FuncData
  law_unlike : Df K mg "_law_unlike" s_law_unlike ["_law_some"] f_law_unlike fd_law_unlike
  f_law : Addr
  fd_law : FuncData
  law : Df K mg "law" s_law ["_law_script"] f_law fd_law
  C_InvalidRow : Addr
  fI_InvalidRow : Addr
  InvalidRow : ErrTxt K mg C_InvalidRow fI_InvalidRow "InvalidRow" "field" "Exception" "Exception.__new__" [.type "Exception", .type "BaseException", .type "object"]
  C_HeadError : Addr
  h_HeadError : mg "HeadError" = some (.ref C_HeadError)
  C_InvalidNumber : Addr
  h_InvalidNumber : mg "InvalidNumber" = some (.ref C_InvalidNumber)
  t_MAX_PLACE : Tok
  c_MAX_PLACE : mg "MAX_PLACE" = some (.int 1000 t_MAX_PLACE)
  t_MAX_COST : Tok
  c_MAX_COST : mg "MAX_COST" = some (.int 1000000 t_MAX_COST)
  b_bool : mg "bool" = none
  b_enumerate : mg "enumerate" = none
  b_int : mg "int" = none
  b_isinstance : mg "isinstance" = none
  b_len : mg "len" = none
  b_list : mg "list" = none
  b_max : mg "max" = none
  b_range : mg "range" = none
  b_repr : mg "repr" = none
  b_sorted : mg "sorted" = none
  C_Row : Addr
  g_Row : mg "Row" = some (.ref C_Row)
  cl : Cls K C_Row
  nS : NoAttr K C_Row "settings"
  ty : ∀ {H : Hp} {a dx : Addr} {fs : List (Str × V)}, H a = some (.ins C_Row dx fs) → TyX K H (.ref a) (.ref C_Row)
  f_Row_init : Addr
  fd_Row_init : FuncData
  F_Row_init : FunD K "__init__" "Row.__init__" (defArgs s_Row_init) (defBody s_Row_init) (defScope s_Row_init) [] [("move", .int 1), ("add", .int 1), ("first", .non), ("last", .non)] f_Row_init fd_Row_init
  mkR : Mk K C_Row f_Row_init
  f_Row_base : Addr
  fd_Row_base : FuncData
  F_Row_base : Fun K "base" "Row.base" s_Row_base f_Row_base fd_Row_base
  b_Row_base : Binds K fd_Row_base ["self"] []
  q_Row_base : Addr
  p_Row_base : PropOf K C_Row "base" q_Row_base f_Row_base
  f_Row_move_cost : Addr
  fd_Row_move_cost : FuncData
  F_Row_move_cost : Fun K "move_cost" "Row.move_cost" s_Row_move_cost f_Row_move_cost fd_Row_move_cost
  b_Row_move_cost : Binds K fd_Row_move_cost ["self"] []
  q_Row_move_cost : Addr
  p_Row_move_cost : PropOf K C_Row "move_cost" q_Row_move_cost f_Row_move_cost
  f_Row_add_cost : Addr
  fd_Row_add_cost : FuncData
  F_Row_add_cost : Fun K "add_cost" "Row.add_cost" s_Row_add_cost f_Row_add_cost fd_Row_add_cost
  b_Row_add_cost : Binds K fd_Row_add_cost ["self"] []
  q_Row_add_cost : Addr
  p_Row_add_cost : PropOf K C_Row "add_cost" q_Row_add_cost f_Row_add_cost
  f_Row_first : Addr
  fd_Row_first : FuncData
  F_Row_first : Fun K "first" "Row.first" s_Row_first f_Row_first fd_Row_first
  b_Row_first : Binds K fd_Row_first ["self"] []
  q_Row_first : Addr
  p_Row_first : PropOf K C_Row "first" q_Row_first f_Row_first
  f_Row_last : Addr
  fd_Row_last : FuncData
  F_Row_last : Fun K "last" "Row.last" s_Row_last f_Row_last fd_Row_last
  b_Row_last : Binds K fd_Row_last ["self"] []
  q_Row_last : Addr
  p_Row_last : PropOf K C_Row "last" q_Row_last f_Row_last
  f_Row_has_place : Addr
  fd_Row_has_place : FuncData
  F_Row_has_place : Fun K "has_place" "Row.has_place" s_Row_has_place f_Row_has_place fd_Row_has_place
  b_Row_has_place : Binds K fd_Row_has_place ["self", "value"] []
  m_Row_has_place : Meth K C_Row "has_place" f_Row_has_place
  f_Row_eq : Addr
  fd_Row_eq : FuncData
  F_Row_eq : Fun K "__eq__" "Row.__eq__" s_Row_eq f_Row_eq fd_Row_eq
  b_Row_eq : Binds K fd_Row_eq ["self", "other"] []
  m_Row_eq : Meth K C_Row "__eq__" f_Row_eq
  rd : ClX.CRead K C_Row (.type "type")
  t_MIN_BASE : Tok
  v_MIN_BASE : ClX.CVal K C_Row (.type "type") "MIN_BASE" (.int 2) (.int 2 t_MIN_BASE)
  t_MAX_BASE : Tok
  v_MAX_BASE : ClX.CVal K C_Row (.type "type") "MAX_BASE" (.int 36) (.int 36 t_MAX_BASE)
  x_isHead : PySem.W.kitOne K (.ref C_InvalidRow) (.ref C_HeadError) = some true
  x_isNum : PySem.W.kitOne K (.ref C_InvalidRow) (.ref C_InvalidNumber) = some false
  x_rowRow : PySem.W.kitOne K (.ref C_Row) (.ref C_Row) = some true
  x_listRow : PySem.W.kitOne K (.type "list") (.ref C_Row) = some false
  x_nfList : PySem.W.notFirst K C_Row (.type "list") = true
  x_nfRow : PySem.W.notFirst K C_Row (.ref C_Row) = true
def mkTx {K : PySem.W.Frag} {h : Heap} {mg : Str → Option Value} (X : K.In h) (G : h.Ns mainGlobals mg)
  {f_is_whole : Addr} {od_is_whole an_is_whole : Option Addr} {sl_is_whole : Array (Option Value)} {oc_is_whole kV_is_whole dc_is_whole pm_is_whole cd_is_whole ct_is_whole : Value}
  {f_is_within : Addr} {od_is_within an_is_within : Option Addr} {sl_is_within : Array (Option Value)} {oc_is_within kV_is_within dc_is_within pm_is_within cd_is_within ct_is_within : Value}
  {f_is_place : Addr} {od_is_place an_is_place : Option Addr} {sl_is_place : Array (Option Value)} {oc_is_place kV_is_place dc_is_place pm_is_place cd_is_place ct_is_place : Value}
  {f_invalid_field : Addr} {od_invalid_field an_invalid_field : Option Addr} {sl_invalid_field : Array (Option Value)} {oc_invalid_field kV_invalid_field dc_invalid_field pm_invalid_field cd_invalid_field ct_invalid_field : Value}
  {f_is_cost : Addr} {od_is_cost an_is_cost : Option Addr} {sl_is_cost : Array (Option Value)} {oc_is_cost kV_is_cost dc_is_cost pm_is_cost cd_is_cost ct_is_cost : Value}
  {f_is_end : Addr} {od_is_end an_is_end : Option Addr} {sl_is_end : Array (Option Value)} {oc_is_end kV_is_end dc_is_end pm_is_end cd_is_end ct_is_end : Value}
  {f_law_numbers : Addr} {od_law_numbers an_law_numbers : Option Addr} {sl_law_numbers : Array (Option Value)} {oc_law_numbers kV_law_numbers dc_law_numbers pm_law_numbers cd_law_numbers ct_law_numbers : Value}
  {f_law_end : Addr} {od_law_end an_law_end : Option Addr} {sl_law_end : Array (Option Value)} {oc_law_end kV_law_end dc_law_end pm_law_end cd_law_end ct_law_end : Value}
  {f_law_arguments : Addr} {od_law_arguments an_law_arguments : Option Addr} {sl_law_arguments : Array (Option Value)} {oc_law_arguments kV_law_arguments dc_law_arguments pm_law_arguments cd_law_arguments ct_law_arguments : Value}
  {f_law_made : Addr} {od_law_made an_law_made : Option Addr} {sl_law_made : Array (Option Value)} {oc_law_made kV_law_made dc_law_made pm_law_made cd_law_made ct_law_made : Value}
  {f_law_error : Addr} {od_law_error an_law_error : Option Addr} {sl_law_error : Array (Option Value)} {oc_law_error kV_law_error dc_law_error pm_law_error cd_law_error ct_law_error : Value}
  {f_law_odd : Addr} {od_law_odd an_law_odd : Option Addr} {sl_law_odd : Array (Option Value)} {oc_law_odd kV_law_odd dc_law_odd pm_law_odd cd_law_odd ct_law_odd : Value}
  {f_law_has : Addr} {od_law_has an_law_has : Option Addr} {sl_law_has : Array (Option Value)} {oc_law_has kV_law_has dc_law_has pm_law_has cd_law_has ct_law_has : Value}
  {f_law_is_right : Addr} {od_law_is_right an_law_is_right : Option Addr} {sl_law_is_right : Array (Option Value)} {oc_law_is_right kV_law_is_right dc_law_is_right pm_law_is_right cd_law_is_right ct_law_is_right : Value}
  {f_law_unlike : Addr} {od_law_unlike an_law_unlike : Option Addr} {sl_law_unlike : Array (Option Value)} {oc_law_unlike kV_law_unlike dc_law_unlike pm_law_unlike cd_law_unlike ct_law_unlike : Value}
  {f_law : Addr} {od_law an_law : Option Addr} {sl_law : Array (Option Value)} {oc_law kV_law dc_law pm_law cd_law ct_law : Value}
  {C_InvalidRow I_InvalidRow N_InvalidRow : Addr} {nm_InvalidRow q_InvalidRow : Str} {bs_InvalidRow bm_InvalidRow sub_InvalidRow : List Value} {sn_InvalidRow : List Str} {ab_InvalidRow : Bool} {col_InvalidRow : Option Bool} {dd_InvalidRow : Option Addr} {m0_InvalidRow m1_InvalidRow m2_InvalidRow m3_InvalidRow m5_InvalidRow : Option Value}
  {od_InvalidRow an_InvalidRow : Option Addr} {sl_InvalidRow : Array (Option Value)} {oc_InvalidRow dc_InvalidRow pm_InvalidRow cd_InvalidRow cv_InvalidRow : Value}
  {C_HeadError : Addr}
  {C_InvalidNumber : Addr}
  {t_MAX_PLACE : Tok}
  {t_MAX_COST : Tok}
  {C_Row : Addr}
  {f_Row_init D_Row_init : Addr} {od_Row_init an_Row_init : Option Addr} {sl_Row_init : Array (Option Value)} {oc_Row_init dc_Row_init pm_Row_init cd_Row_init ct_Row_init : Value}
  {tk0_Row_init : Tok}
  {tk1_Row_init : Tok}
  {f_Row_base : Addr} {od_Row_base an_Row_base : Option Addr} {sl_Row_base : Array (Option Value)} {oc_Row_base kV_Row_base dc_Row_base pm_Row_base cd_Row_base ct_Row_base : Value}
  {p_Row_base : Addr} {rest_Row_base : List Value}
  {f_Row_move_cost : Addr} {od_Row_move_cost an_Row_move_cost : Option Addr} {sl_Row_move_cost : Array (Option Value)} {oc_Row_move_cost kV_Row_move_cost dc_Row_move_cost pm_Row_move_cost cd_Row_move_cost ct_Row_move_cost : Value}
  {p_Row_move_cost : Addr} {rest_Row_move_cost : List Value}
  {f_Row_add_cost : Addr} {od_Row_add_cost an_Row_add_cost : Option Addr} {sl_Row_add_cost : Array (Option Value)} {oc_Row_add_cost kV_Row_add_cost dc_Row_add_cost pm_Row_add_cost cd_Row_add_cost ct_Row_add_cost : Value}
  {p_Row_add_cost : Addr} {rest_Row_add_cost : List Value}
  {f_Row_first : Addr} {od_Row_first an_Row_first : Option Addr} {sl_Row_first : Array (Option Value)} {oc_Row_first kV_Row_first dc_Row_first pm_Row_first cd_Row_first ct_Row_first : Value}
  {p_Row_first : Addr} {rest_Row_first : List Value}
  {f_Row_last : Addr} {od_Row_last an_Row_last : Option Addr} {sl_Row_last : Array (Option Value)} {oc_Row_last kV_Row_last dc_Row_last pm_Row_last cd_Row_last ct_Row_last : Value}
  {p_Row_last : Addr} {rest_Row_last : List Value}
  {f_Row_has_place : Addr} {od_Row_has_place an_Row_has_place : Option Addr} {sl_Row_has_place : Array (Option Value)} {oc_Row_has_place kV_Row_has_place dc_Row_has_place pm_Row_has_place cd_Row_has_place ct_Row_has_place : Value}
  {f_Row_eq : Addr} {od_Row_eq an_Row_eq : Option Addr} {sl_Row_eq : Array (Option Value)} {oc_Row_eq kV_Row_eq dc_Row_eq pm_Row_eq cd_Row_eq ct_Row_eq : Value}
  {tv_MIN_BASE : Tok}
  {tv_MAX_BASE : Tok}
  (a_is_whole : PySem.W.nsIn K mainGlobals "is_whole" = some (some (.ref f_is_whole)))
  (l_is_whole : K.lookup f_is_whole = some ⟨oc_is_whole, od_is_whole, .func (PySem.W.fnOf "is_whole" "is_whole" (defArgs s_is_whole) (defBody s_is_whole) (defScope s_is_whole) .none kV_is_whole dc_is_whole pm_is_whole an_is_whole cd_is_whole ct_is_whole), sl_is_whole⟩)
  (c_is_whole : PySem.W.codeIn K cd_is_whole "is_whole" = true)
  (k_is_whole : PySem.W.keepIn K (.ref f_is_whole) = true)
  (a_is_within : PySem.W.nsIn K mainGlobals "is_within" = some (some (.ref f_is_within)))
  (l_is_within : K.lookup f_is_within = some ⟨oc_is_within, od_is_within, .func (PySem.W.fnOf "is_within" "is_within" (defArgs s_is_within) (defBody s_is_within) (defScope s_is_within) .none kV_is_within dc_is_within pm_is_within an_is_within cd_is_within ct_is_within), sl_is_within⟩)
  (c_is_within : PySem.W.codeIn K cd_is_within "is_within" = true)
  (k_is_within : PySem.W.keepIn K (.ref f_is_within) = true)
  (a_is_place : PySem.W.nsIn K mainGlobals "is_place" = some (some (.ref f_is_place)))
  (l_is_place : K.lookup f_is_place = some ⟨oc_is_place, od_is_place, .func (PySem.W.fnOf "is_place" "is_place" (defArgs s_is_place) (defBody s_is_place) (defScope s_is_place) .none kV_is_place dc_is_place pm_is_place an_is_place cd_is_place ct_is_place), sl_is_place⟩)
  (c_is_place : PySem.W.codeIn K cd_is_place "is_place" = true)
  (k_is_place : PySem.W.keepIn K (.ref f_is_place) = true)
  (a_invalid_field : PySem.W.nsIn K mainGlobals "invalid_field" = some (some (.ref f_invalid_field)))
  (l_invalid_field : K.lookup f_invalid_field = some ⟨oc_invalid_field, od_invalid_field, .func (PySem.W.fnOf "invalid_field" "invalid_field" (defArgs s_invalid_field) (defBody s_invalid_field) (defScope s_invalid_field) .none kV_invalid_field dc_invalid_field pm_invalid_field an_invalid_field cd_invalid_field ct_invalid_field), sl_invalid_field⟩)
  (c_invalid_field : PySem.W.codeIn K cd_invalid_field "invalid_field" = true)
  (k_invalid_field : PySem.W.keepIn K (.ref f_invalid_field) = true)
  (a_is_cost : PySem.W.nsIn K mainGlobals "is_cost" = some (some (.ref f_is_cost)))
  (l_is_cost : K.lookup f_is_cost = some ⟨oc_is_cost, od_is_cost, .func (PySem.W.fnOf "is_cost" "is_cost" (defArgs s_is_cost) (defBody s_is_cost) (defScope s_is_cost) .none kV_is_cost dc_is_cost pm_is_cost an_is_cost cd_is_cost ct_is_cost), sl_is_cost⟩)
  (c_is_cost : PySem.W.codeIn K cd_is_cost "is_cost" = true)
  (k_is_cost : PySem.W.keepIn K (.ref f_is_cost) = true)
  (a_is_end : PySem.W.nsIn K mainGlobals "is_end" = some (some (.ref f_is_end)))
  (l_is_end : K.lookup f_is_end = some ⟨oc_is_end, od_is_end, .func (PySem.W.fnOf "is_end" "is_end" (defArgs s_is_end) (defBody s_is_end) (defScope s_is_end) .none kV_is_end dc_is_end pm_is_end an_is_end cd_is_end ct_is_end), sl_is_end⟩)
  (c_is_end : PySem.W.codeIn K cd_is_end "is_end" = true)
  (k_is_end : PySem.W.keepIn K (.ref f_is_end) = true)
  (a_law_numbers : PySem.W.nsIn K mainGlobals "_law_numbers" = some (some (.ref f_law_numbers)))
  (l_law_numbers : K.lookup f_law_numbers = some ⟨oc_law_numbers, od_law_numbers, .func (PySem.W.fnOf "_law_numbers" "_law_numbers" (defArgs s_law_numbers) (defBody s_law_numbers) (defScope s_law_numbers) .none kV_law_numbers dc_law_numbers pm_law_numbers an_law_numbers cd_law_numbers ct_law_numbers), sl_law_numbers⟩)
  (c_law_numbers : PySem.W.codeIn K cd_law_numbers "_law_numbers" = true)
  (k_law_numbers : PySem.W.keepIn K (.ref f_law_numbers) = true)
  (a_law_end : PySem.W.nsIn K mainGlobals "_law_end" = some (some (.ref f_law_end)))
  (l_law_end : K.lookup f_law_end = some ⟨oc_law_end, od_law_end, .func (PySem.W.fnOf "_law_end" "_law_end" (defArgs s_law_end) (defBody s_law_end) (defScope s_law_end) .none kV_law_end dc_law_end pm_law_end an_law_end cd_law_end ct_law_end), sl_law_end⟩)
  (c_law_end : PySem.W.codeIn K cd_law_end "_law_end" = true)
  (k_law_end : PySem.W.keepIn K (.ref f_law_end) = true)
  (a_law_arguments : PySem.W.nsIn K mainGlobals "_law_arguments" = some (some (.ref f_law_arguments)))
  (l_law_arguments : K.lookup f_law_arguments = some ⟨oc_law_arguments, od_law_arguments, .func (PySem.W.fnOf "_law_arguments" "_law_arguments" (defArgs s_law_arguments) (defBody s_law_arguments) (defScope s_law_arguments) .none kV_law_arguments dc_law_arguments pm_law_arguments an_law_arguments cd_law_arguments ct_law_arguments), sl_law_arguments⟩)
  (c_law_arguments : PySem.W.codeIn K cd_law_arguments "_law_arguments" = true)
  (k_law_arguments : PySem.W.keepIn K (.ref f_law_arguments) = true)
  (a_law_made : PySem.W.nsIn K mainGlobals "_law_made" = some (some (.ref f_law_made)))
  (l_law_made : K.lookup f_law_made = some ⟨oc_law_made, od_law_made, .func (PySem.W.fnOf "_law_made" "_law_made" (defArgs s_law_made) (defBody s_law_made) (defScope s_law_made) .none kV_law_made dc_law_made pm_law_made an_law_made cd_law_made ct_law_made), sl_law_made⟩)
  (c_law_made : PySem.W.codeIn K cd_law_made "_law_made" = true)
  (k_law_made : PySem.W.keepIn K (.ref f_law_made) = true)
  (a_law_error : PySem.W.nsIn K mainGlobals "_law_error" = some (some (.ref f_law_error)))
  (l_law_error : K.lookup f_law_error = some ⟨oc_law_error, od_law_error, .func (PySem.W.fnOf "_law_error" "_law_error" (defArgs s_law_error) (defBody s_law_error) (defScope s_law_error) .none kV_law_error dc_law_error pm_law_error an_law_error cd_law_error ct_law_error), sl_law_error⟩)
  (c_law_error : PySem.W.codeIn K cd_law_error "_law_error" = true)
  (k_law_error : PySem.W.keepIn K (.ref f_law_error) = true)
  (a_law_odd : PySem.W.nsIn K mainGlobals "_law_odd" = some (some (.ref f_law_odd)))
  (l_law_odd : K.lookup f_law_odd = some ⟨oc_law_odd, od_law_odd, .func (PySem.W.fnOf "_law_odd" "_law_odd" (defArgs s_law_odd) (defBody s_law_odd) (defScope s_law_odd) .none kV_law_odd dc_law_odd pm_law_odd an_law_odd cd_law_odd ct_law_odd), sl_law_odd⟩)
  (c_law_odd : PySem.W.codeIn K cd_law_odd "_law_odd" = true)
  (k_law_odd : PySem.W.keepIn K (.ref f_law_odd) = true)
  (a_law_has : PySem.W.nsIn K mainGlobals "_law_has" = some (some (.ref f_law_has)))
  (l_law_has : K.lookup f_law_has = some ⟨oc_law_has, od_law_has, .func (PySem.W.fnOf "_law_has" "_law_has" (defArgs s_law_has) (defBody s_law_has) (defScope s_law_has) .none kV_law_has dc_law_has pm_law_has an_law_has cd_law_has ct_law_has), sl_law_has⟩)
  (c_law_has : PySem.W.codeIn K cd_law_has "_law_has" = true)
  (k_law_has : PySem.W.keepIn K (.ref f_law_has) = true)
  (a_law_is_right : PySem.W.nsIn K mainGlobals "_law_is_right" = some (some (.ref f_law_is_right)))
  (l_law_is_right : K.lookup f_law_is_right = some ⟨oc_law_is_right, od_law_is_right, .func (PySem.W.fnOf "_law_is_right" "_law_is_right" (defArgs s_law_is_right) (defBody s_law_is_right) (defScope s_law_is_right) .none kV_law_is_right dc_law_is_right pm_law_is_right an_law_is_right cd_law_is_right ct_law_is_right), sl_law_is_right⟩)
  (c_law_is_right : PySem.W.codeIn K cd_law_is_right "_law_is_right" = true)
  (k_law_is_right : PySem.W.keepIn K (.ref f_law_is_right) = true)
  (a_law_unlike : PySem.W.nsIn K mainGlobals "_law_unlike" = some (some (.ref f_law_unlike)))
  (l_law_unlike : K.lookup f_law_unlike = some ⟨oc_law_unlike, od_law_unlike, .func (PySem.W.fnOf "_law_unlike" "_law_unlike" (defArgs s_law_unlike) (defBody s_law_unlike) (defScope s_law_unlike) .none kV_law_unlike dc_law_unlike pm_law_unlike an_law_unlike cd_law_unlike ct_law_unlike), sl_law_unlike⟩)
  (c_law_unlike : PySem.W.codeIn K cd_law_unlike "_law_unlike" = true)
  (k_law_unlike : PySem.W.keepIn K (.ref f_law_unlike) = true)
  (a_law : PySem.W.nsIn K mainGlobals "law" = some (some (.ref f_law)))
  (l_law : K.lookup f_law = some ⟨oc_law, od_law, .func (PySem.W.fnOf "law" "law" (defArgs s_law) (defBody s_law) (defScope s_law) .none kV_law dc_law pm_law an_law cd_law ct_law), sl_law⟩)
  (c_law : PySem.W.codeIn K cd_law "law" = true)
  (k_law : PySem.W.keepIn K (.ref f_law) = true)
  (a_InvalidRow : PySem.W.nsIn K mainGlobals "InvalidRow" = some (some (.ref C_InvalidRow)))
  (x_InvalidRow : K.lookup C_InvalidRow = some (excClassObj nm_InvalidRow q_InvalidRow C_InvalidRow N_InvalidRow bs_InvalidRow bm_InvalidRow true sn_InvalidRow sub_InvalidRow ab_InvalidRow col_InvalidRow dd_InvalidRow m0_InvalidRow m1_InvalidRow m2_InvalidRow m3_InvalidRow m5_InvalidRow "Exception.__new__"))
  (xt_InvalidRow : PySem.W.excTail [.type "Exception", .type "BaseException", .type "object"] bm_InvalidRow = true)
  (ov_InvalidRow : PySem.W.excOver K C_InvalidRow [.type "Exception", .type "BaseException", .type "object"] = true)
  (sa_InvalidRow : PySem.W.findIn K (.ref C_InvalidRow) "__setattr__" = some (some (.builtin "object.__setattr__")))
  (ga_InvalidRow : PySem.W.findIn K (.ref C_InvalidRow) "__getattribute__" = some (some (.builtin "BaseException.__getattribute__")))
  (gg_InvalidRow : PySem.W.findIn K (.ref C_InvalidRow) "__getattr__" = some none)
  (nn_InvalidRow : PySem.W.findIn K (.ref C_InvalidRow) "field" = some none)
  (ii_InvalidRow : PySem.W.findIn K (.ref C_InvalidRow) "__init__" = some (some (.ref I_InvalidRow)))
  (cc_InvalidRow : PySem.W.findIn K (.ref C_InvalidRow) "__class__" = some (some (.builtin "object.__class__")))
  (ti_InvalidRow : PySem.W.typeIn K (.ref I_InvalidRow) = some (.type "function"))
  (kc_InvalidRow : PySem.W.keepIn K (.ref C_InvalidRow) = true)
  (ex_InvalidRow : PySem.W.subIn K (.ref C_InvalidRow) (.type "BaseException") = some true)
  (tc_InvalidRow : PySem.W.typeIn K (.ref C_InvalidRow) = some (.type "type"))
  (hd_InvalidRow : PySem.W.hasDictIn K C_InvalidRow = true)
  (te_InvalidRow : PySem.W.exmOne K (.ref C_InvalidRow) (.ref C_InvalidRow) = some true)
  (cn_InvalidRow : PySem.W.specialIn K (.builtin "object.__class__") "__get__" = some (some (.builtin "getset_descriptor.__get__")))
  (ct_InvalidRow : PySem.W.takesIn K (.builtin "object.__class__") = some true)
  (cm_InvalidRow : PySem.W.mroIn K C_InvalidRow (.type "object") = some true)
  (li_InvalidRow : K.lookup I_InvalidRow = some ⟨oc_InvalidRow, od_InvalidRow, .func (PySem.W.fnOf "__init__" "InvalidRow.__init__" (defArgs (inClass (top 2) 0)) (defBody (inClass (top 2) 0)) (defScope (inClass (top 2) 0)) .none .none dc_InvalidRow pm_InvalidRow an_InvalidRow cd_InvalidRow cv_InvalidRow), sl_InvalidRow⟩)
  (ci_InvalidRow : PySem.W.codeIn K cd_InvalidRow "InvalidRow.__init__" = true)
  (a_HeadError : PySem.W.nsIn K mainGlobals "HeadError" = some (some (.ref C_HeadError)))
  (a_InvalidNumber : PySem.W.nsIn K mainGlobals "InvalidNumber" = some (some (.ref C_InvalidNumber)))
  (n_MAX_PLACE : PySem.W.nsIn K mainGlobals "MAX_PLACE" = some (some (.int 1000 t_MAX_PLACE)))
  (n_MAX_COST : PySem.W.nsIn K mainGlobals "MAX_COST" = some (some (.int 1000000 t_MAX_COST)))
  (z_bool : PySem.W.nsIn K mainGlobals "bool" = some none)
  (z_enumerate : PySem.W.nsIn K mainGlobals "enumerate" = some none)
  (z_int : PySem.W.nsIn K mainGlobals "int" = some none)
  (z_isinstance : PySem.W.nsIn K mainGlobals "isinstance" = some none)
  (z_len : PySem.W.nsIn K mainGlobals "len" = some none)
  (z_list : PySem.W.nsIn K mainGlobals "list" = some none)
  (z_max : PySem.W.nsIn K mainGlobals "max" = some none)
  (z_range : PySem.W.nsIn K mainGlobals "range" = some none)
  (z_repr : PySem.W.nsIn K mainGlobals "repr" = some none)
  (z_sorted : PySem.W.nsIn K mainGlobals "sorted" = some none)
  (a_Row : PySem.W.nsIn K mainGlobals "Row" = some (some (.ref C_Row)))
  (pg_Row : PySem.W.plainGet K C_Row Str.empty = true)
  (hd_Row : PySem.W.hasDictIn K C_Row = true)
  (po_Row : PySem.W.plainOver K C_Row = true)
  (sa_Row : PySem.W.findIn K (.ref C_Row) "__setattr__" = some (some (.builtin "object.__setattr__")))
  (nS_Row : PySem.W.findIn K (.ref C_Row) "settings" = some none)
  (ha_Row : PySem.W.findIn K (.ref C_Row) "__class__" = some (some (.builtin "object.__class__")))
  (hn_Row : PySem.W.specialIn K (.builtin "object.__class__") "__get__" = some (some (.builtin "getset_descriptor.__get__")))
  (ht_Row : PySem.W.takesIn K (.builtin "object.__class__") = some true)
  (hm_Row : PySem.W.mroIn K C_Row (.type "object") = some true)
  (i_Row_init : PySem.W.findIn K (.ref C_Row) "__init__" = some (some (.ref f_Row_init)))
  (if_Row_init : PySem.W.isFn K (.ref f_Row_init) = true)
  (l_Row_init : K.lookup f_Row_init = some ⟨oc_Row_init, od_Row_init, .func (PySem.W.fnOf "__init__" "Row.__init__" (defArgs s_Row_init) (defBody s_Row_init) (defScope s_Row_init) .none (.ref D_Row_init) dc_Row_init pm_Row_init an_Row_init cd_Row_init ct_Row_init), sl_Row_init⟩)
  (c_Row_init : PySem.W.codeIn K cd_Row_init "Row.__init__" = true)
  (k_Row_init : PySem.W.keepIn K (.ref f_Row_init) = true)
  (mk_Row : PySem.W.makesIn K C_Row = true)
  (kc_Row : PySem.W.keepIn K (.ref C_Row) = true)
  (d0_Row_init : PySem.W.nsIn K D_Row_init "move" = some (some (.int 1 tk0_Row_init)))
  (d1_Row_init : PySem.W.nsIn K D_Row_init "add" = some (some (.int 1 tk1_Row_init)))
  (d2_Row_init : PySem.W.nsIn K D_Row_init "first" = some (some (.none)))
  (d3_Row_init : PySem.W.nsIn K D_Row_init "last" = some (some (.none)))
  (at_Row_base : PySem.W.findIn K (.ref C_Row) "base" = some (some (.ref p_Row_base)))
  (gt_Row_base : PySem.W.specialIn K (.ref p_Row_base) "__get__" = some (some (.builtin "property.__get__")))
  (tk_Row_base : PySem.W.takesIn K (.ref p_Row_base) = some true)
  (rc_Row_base : PySem.W.recIn K p_Row_base "property" = some (.ref f_Row_base :: rest_Row_base))
  (l_Row_base : K.lookup f_Row_base = some ⟨oc_Row_base, od_Row_base, .func (PySem.W.fnOf "base" "Row.base" (defArgs s_Row_base) (defBody s_Row_base) (defScope s_Row_base) .none kV_Row_base dc_Row_base pm_Row_base an_Row_base cd_Row_base ct_Row_base), sl_Row_base⟩)
  (c_Row_base : PySem.W.codeIn K cd_Row_base "Row.base" = true)
  (k_Row_base : PySem.W.keepIn K (.ref f_Row_base) = true)
  (at_Row_move_cost : PySem.W.findIn K (.ref C_Row) "move_cost" = some (some (.ref p_Row_move_cost)))
  (gt_Row_move_cost : PySem.W.specialIn K (.ref p_Row_move_cost) "__get__" = some (some (.builtin "property.__get__")))
  (tk_Row_move_cost : PySem.W.takesIn K (.ref p_Row_move_cost) = some true)
  (rc_Row_move_cost : PySem.W.recIn K p_Row_move_cost "property" = some (.ref f_Row_move_cost :: rest_Row_move_cost))
  (l_Row_move_cost : K.lookup f_Row_move_cost = some ⟨oc_Row_move_cost, od_Row_move_cost, .func (PySem.W.fnOf "move_cost" "Row.move_cost" (defArgs s_Row_move_cost) (defBody s_Row_move_cost) (defScope s_Row_move_cost) .none kV_Row_move_cost dc_Row_move_cost pm_Row_move_cost an_Row_move_cost cd_Row_move_cost ct_Row_move_cost), sl_Row_move_cost⟩)
  (c_Row_move_cost : PySem.W.codeIn K cd_Row_move_cost "Row.move_cost" = true)
  (k_Row_move_cost : PySem.W.keepIn K (.ref f_Row_move_cost) = true)
  (at_Row_add_cost : PySem.W.findIn K (.ref C_Row) "add_cost" = some (some (.ref p_Row_add_cost)))
  (gt_Row_add_cost : PySem.W.specialIn K (.ref p_Row_add_cost) "__get__" = some (some (.builtin "property.__get__")))
  (tk_Row_add_cost : PySem.W.takesIn K (.ref p_Row_add_cost) = some true)
  (rc_Row_add_cost : PySem.W.recIn K p_Row_add_cost "property" = some (.ref f_Row_add_cost :: rest_Row_add_cost))
  (l_Row_add_cost : K.lookup f_Row_add_cost = some ⟨oc_Row_add_cost, od_Row_add_cost, .func (PySem.W.fnOf "add_cost" "Row.add_cost" (defArgs s_Row_add_cost) (defBody s_Row_add_cost) (defScope s_Row_add_cost) .none kV_Row_add_cost dc_Row_add_cost pm_Row_add_cost an_Row_add_cost cd_Row_add_cost ct_Row_add_cost), sl_Row_add_cost⟩)
  (c_Row_add_cost : PySem.W.codeIn K cd_Row_add_cost "Row.add_cost" = true)
  (k_Row_add_cost : PySem.W.keepIn K (.ref f_Row_add_cost) = true)
  (at_Row_first : PySem.W.findIn K (.ref C_Row) "first" = some (some (.ref p_Row_first)))
  (gt_Row_first : PySem.W.specialIn K (.ref p_Row_first) "__get__" = some (some (.builtin "property.__get__")))
  (tk_Row_first : PySem.W.takesIn K (.ref p_Row_first) = some true)
  (rc_Row_first : PySem.W.recIn K p_Row_first "property" = some (.ref f_Row_first :: rest_Row_first))
  (l_Row_first : K.lookup f_Row_first = some ⟨oc_Row_first, od_Row_first, .func (PySem.W.fnOf "first" "Row.first" (defArgs s_Row_first) (defBody s_Row_first) (defScope s_Row_first) .none kV_Row_first dc_Row_first pm_Row_first an_Row_first cd_Row_first ct_Row_first), sl_Row_first⟩)
  (c_Row_first : PySem.W.codeIn K cd_Row_first "Row.first" = true)
  (k_Row_first : PySem.W.keepIn K (.ref f_Row_first) = true)
  (at_Row_last : PySem.W.findIn K (.ref C_Row) "last" = some (some (.ref p_Row_last)))
  (gt_Row_last : PySem.W.specialIn K (.ref p_Row_last) "__get__" = some (some (.builtin "property.__get__")))
  (tk_Row_last : PySem.W.takesIn K (.ref p_Row_last) = some true)
  (rc_Row_last : PySem.W.recIn K p_Row_last "property" = some (.ref f_Row_last :: rest_Row_last))
  (l_Row_last : K.lookup f_Row_last = some ⟨oc_Row_last, od_Row_last, .func (PySem.W.fnOf "last" "Row.last" (defArgs s_Row_last) (defBody s_Row_last) (defScope s_Row_last) .none kV_Row_last dc_Row_last pm_Row_last an_Row_last cd_Row_last ct_Row_last), sl_Row_last⟩)
  (c_Row_last : PySem.W.codeIn K cd_Row_last "Row.last" = true)
  (k_Row_last : PySem.W.keepIn K (.ref f_Row_last) = true)
  (at_Row_has_place : PySem.W.findIn K (.ref C_Row) "has_place" = some (some (.ref f_Row_has_place)))
  (if_Row_has_place : PySem.W.isFn K (.ref f_Row_has_place) = true)
  (l_Row_has_place : K.lookup f_Row_has_place = some ⟨oc_Row_has_place, od_Row_has_place, .func (PySem.W.fnOf "has_place" "Row.has_place" (defArgs s_Row_has_place) (defBody s_Row_has_place) (defScope s_Row_has_place) .none kV_Row_has_place dc_Row_has_place pm_Row_has_place an_Row_has_place cd_Row_has_place ct_Row_has_place), sl_Row_has_place⟩)
  (c_Row_has_place : PySem.W.codeIn K cd_Row_has_place "Row.has_place" = true)
  (k_Row_has_place : PySem.W.keepIn K (.ref f_Row_has_place) = true)
  (at_Row_eq : PySem.W.findIn K (.ref C_Row) "__eq__" = some (some (.ref f_Row_eq)))
  (if_Row_eq : PySem.W.isFn K (.ref f_Row_eq) = true)
  (l_Row_eq : K.lookup f_Row_eq = some ⟨oc_Row_eq, od_Row_eq, .func (PySem.W.fnOf "__eq__" "Row.__eq__" (defArgs s_Row_eq) (defBody s_Row_eq) (defScope s_Row_eq) .none kV_Row_eq dc_Row_eq pm_Row_eq an_Row_eq cd_Row_eq ct_Row_eq), sl_Row_eq⟩)
  (c_Row_eq : PySem.W.codeIn K cd_Row_eq "Row.__eq__" = true)
  (k_Row_eq : PySem.W.keepIn K (.ref f_Row_eq) = true)
  (rd_Row : PySem.W.readsIn K C_Row (.type "type") = true)
  (rg_Row : PySem.W.specialIn K (.ref C_Row) "__getattribute__" = some (some (.builtin "type.__getattribute__")))
  (v_MIN_BASE : PySem.W.findCls K (.ref C_Row) (.type "type") "MIN_BASE" = some (.val (.int 2 tv_MIN_BASE)))
  (v_MAX_BASE : PySem.W.findCls K (.ref C_Row) (.type "type") "MAX_BASE" = some (.val (.int 36 tv_MAX_BASE)))
  (x_isHead : PySem.W.kitOne K (.ref C_InvalidRow) (.ref C_HeadError) = some true)
  (x_isNum : PySem.W.kitOne K (.ref C_InvalidRow) (.ref C_InvalidNumber) = some false)
  (x_rowRow : PySem.W.kitOne K (.ref C_Row) (.ref C_Row) = some true)
  (x_listRow : PySem.W.kitOne K (.type "list") (.ref C_Row) = some false)
  (x_nfList : PySem.W.notFirst K C_Row (.type "list") = true)
  (x_nfRow : PySem.W.notFirst K C_Row (.ref C_Row) = true)
  : Tx K mg :=
  { f_is_whole := _, fd_is_whole := _, is_whole := ⟨fun_mk (st := s_is_whole) l_is_whole c_is_whole k_is_whole, PySem.W.mg_of X G a_is_whole, (fun_mk (st := s_is_whole) l_is_whole c_is_whole k_is_whole).binds (ps := ["value"]) fun _ _ _ _ _ _ us hl => match us, hl with | [_], _ => rfl⟩,
    f_is_within := _, fd_is_within := _, is_within := ⟨fun_mk (st := s_is_within) l_is_within c_is_within k_is_within, PySem.W.mg_of X G a_is_within, (fun_mk (st := s_is_within) l_is_within c_is_within k_is_within).binds (ps := ["value", "low", "high"]) fun _ _ _ _ _ _ us hl => match us, hl with | [_, _, _], _ => rfl⟩,
    f_is_place := _, fd_is_place := _, is_place := ⟨fun_mk (st := s_is_place) l_is_place c_is_place k_is_place, PySem.W.mg_of X G a_is_place, (fun_mk (st := s_is_place) l_is_place c_is_place k_is_place).binds (ps := ["value"]) fun _ _ _ _ _ _ us hl => match us, hl with | [_], _ => rfl⟩,
    f_invalid_field := _, fd_invalid_field := _, invalid_field := ⟨fun_mk (st := s_invalid_field) l_invalid_field c_invalid_field k_invalid_field, PySem.W.mg_of X G a_invalid_field, (fun_mk (st := s_invalid_field) l_invalid_field c_invalid_field k_invalid_field).binds (ps := ["base", "move", "add", "first", "last"]) fun _ _ _ _ _ _ us hl => match us, hl with | [_, _, _, _, _], _ => rfl⟩,
    f_is_cost := _, fd_is_cost := _, is_cost := ⟨fun_mk (st := s_is_cost) l_is_cost c_is_cost k_is_cost, PySem.W.mg_of X G a_is_cost, (fun_mk (st := s_is_cost) l_is_cost c_is_cost k_is_cost).binds (ps := ["value"]) fun _ _ _ _ _ _ us hl => match us, hl with | [_], _ => rfl⟩,
    f_is_end := _, fd_is_end := _, is_end := ⟨fun_mk (st := s_is_end) l_is_end c_is_end k_is_end, PySem.W.mg_of X G a_is_end, (fun_mk (st := s_is_end) l_is_end c_is_end k_is_end).binds (ps := ["value"]) fun _ _ _ _ _ _ us hl => match us, hl with | [_], _ => rfl⟩,
    f_law_numbers := _, fd_law_numbers := _, law_numbers := ⟨fun_mk (st := s_law_numbers) l_law_numbers c_law_numbers k_law_numbers, PySem.W.mg_of X G a_law_numbers, (fun_mk (st := s_law_numbers) l_law_numbers c_law_numbers k_law_numbers).binds (ps := ["_law_cell", "_law_salt", "_law_sizes"]) fun _ _ _ _ _ _ us hl => match us, hl with | [_, _, _], _ => rfl⟩,
    f_law_end := _, fd_law_end := _, law_end := ⟨fun_mk (st := s_law_end) l_law_end c_law_end k_law_end, PySem.W.mg_of X G a_law_end, (fun_mk (st := s_law_end) l_law_end c_law_end k_law_end).binds (ps := ["_law_digit"]) fun _ _ _ _ _ _ us hl => match us, hl with | [_], _ => rfl⟩,
    f_law_arguments := _, fd_law_arguments := _, law_arguments := ⟨fun_mk (st := s_law_arguments) l_law_arguments c_law_arguments k_law_arguments, PySem.W.mg_of X G a_law_arguments, (fun_mk (st := s_law_arguments) l_law_arguments c_law_arguments k_law_arguments).binds (ps := ["_law_digits"]) fun _ _ _ _ _ _ us hl => match us, hl with | [_], _ => rfl⟩,
    f_law_made := _, fd_law_made := _, law_made := ⟨fun_mk (st := s_law_made) l_law_made c_law_made k_law_made, PySem.W.mg_of X G a_law_made, (fun_mk (st := s_law_made) l_law_made c_law_made k_law_made).binds (ps := ["_law_some"]) fun _ _ _ _ _ _ us hl => match us, hl with | [_], _ => rfl⟩,
    f_law_error := _, fd_law_error := _, law_error := ⟨fun_mk (st := s_law_error) l_law_error c_law_error k_law_error, PySem.W.mg_of X G a_law_error, (fun_mk (st := s_law_error) l_law_error c_law_error k_law_error).binds (ps := ["_law_some"]) fun _ _ _ _ _ _ us hl => match us, hl with | [_], _ => rfl⟩,
    f_law_odd := _, fd_law_odd := _, law_odd := ⟨fun_mk (st := s_law_odd) l_law_odd c_law_odd k_law_odd, PySem.W.mg_of X G a_law_odd, (fun_mk (st := s_law_odd) l_law_odd c_law_odd k_law_odd).binds (ps := ["_law_digits", "_law_at"]) fun _ _ _ _ _ _ us hl => match us, hl with | [_, _], _ => rfl⟩,
    f_law_has := _, fd_law_has := _, law_has := ⟨fun_mk (st := s_law_has) l_law_has c_law_has k_law_has, PySem.W.mg_of X G a_law_has, (fun_mk (st := s_law_has) l_law_has c_law_has k_law_has).binds (ps := ["_law_some", "_law_value"]) fun _ _ _ _ _ _ us hl => match us, hl with | [_, _], _ => rfl⟩,
    f_law_is_right := _, fd_law_is_right := _, law_is_right := ⟨fun_mk (st := s_law_is_right) l_law_is_right c_law_is_right k_law_is_right, PySem.W.mg_of X G a_law_is_right, (fun_mk (st := s_law_is_right) l_law_is_right c_law_is_right k_law_is_right).binds (ps := ["_law_some"]) fun _ _ _ _ _ _ us hl => match us, hl with | [_], _ => rfl⟩,
    f_law_unlike := _, fd_law_unlike := _, law_unlike := ⟨fun_mk (st := s_law_unlike) l_law_unlike c_law_unlike k_law_unlike, PySem.W.mg_of X G a_law_unlike, (fun_mk (st := s_law_unlike) l_law_unlike c_law_unlike k_law_unlike).binds (ps := ["_law_some"]) fun _ _ _ _ _ _ us hl => match us, hl with | [_], _ => rfl⟩,
    f_law := _, fd_law := _, law := ⟨fun_mk (st := s_law) l_law c_law k_law, PySem.W.mg_of X G a_law, (fun_mk (st := s_law) l_law c_law k_law).binds (ps := ["_law_script"]) fun _ _ _ _ _ _ us hl => match us, hl with | [_], _ => rfl⟩,
    C_InvalidRow := _, fI_InvalidRow := _, InvalidRow := { gC := PySem.W.mg_of X G a_InvalidRow, cls := ⟨_, _, _, _, _, _, _, _, _, _, _, _, _, _, _, x_InvalidRow, xt_InvalidRow⟩, FB := ⟨_, PySem.F.excBase_Exception⟩, SF := PySem.F.store_Exception, over := ov_InvalidRow, sa := sa_InvalidRow, ga := ga_InvalidRow, gg := gg_InvalidRow, noN := nn_InvalidRow, iC := ii_InvalidRow, tC := ti_InvalidRow, kC := kc_InvalidRow, exC := ex_InvalidRow, tyC := tc_InvalidRow, hdC := hd_InvalidRow, te := te_InvalidRow, cc := cc_InvalidRow, cn := cn_InvalidRow, ct := ct_InvalidRow, cm := cm_InvalidRow, fn := ⟨_, _, _, _, _, _, _, _, (inClass (top 2) 0), _, li_InvalidRow, ci_InvalidRow, ⟨⟨_, _, _, _, rfl⟩, rfl, rfl, rfl, rfl, rfl, by decide +kernel, by decide +kernel, fun _ _ _ _ _ _ _ => rfl, fun _ _ _ => rfl, fun _ _ _ => rfl, fun _ _ _ _ _ _ _ => rfl⟩⟩ },
    C_HeadError := _, h_HeadError := PySem.W.mg_of X G a_HeadError,
    C_InvalidNumber := _, h_InvalidNumber := PySem.W.mg_of X G a_InvalidNumber,
    t_MAX_PLACE := _, c_MAX_PLACE := PySem.W.mg_of X G n_MAX_PLACE,
    t_MAX_COST := _, c_MAX_COST := PySem.W.mg_of X G n_MAX_COST,
    b_bool := PySem.W.mg_none_of X G z_bool,
    b_enumerate := PySem.W.mg_none_of X G z_enumerate,
    b_int := PySem.W.mg_none_of X G z_int,
    b_isinstance := PySem.W.mg_none_of X G z_isinstance,
    b_len := PySem.W.mg_none_of X G z_len,
    b_list := PySem.W.mg_none_of X G z_list,
    b_max := PySem.W.mg_none_of X G z_max,
    b_range := PySem.W.mg_none_of X G z_range,
    b_repr := PySem.W.mg_none_of X G z_repr,
    b_sorted := PySem.W.mg_none_of X G z_sorted,
    C_Row := _, g_Row := PySem.W.mg_of X G a_Row,
    cl := ⟨pg_Row, hd_Row, po_Row, sa_Row⟩, nS := nS_Row,
    ty := fun e => .base (.ins e ⟨pg_Row, hd_Row, po_Row, sa_Row⟩ ha_Row hn_Row ht_Row hm_Row),
    f_Row_init := _, fd_Row_init := _, F_Row_init := ⟨⟨_, _, _, _, _, _, _, _, _, _, rfl, l_Row_init, c_Row_init, .inl ⟨rfl, rfl⟩, .inr ⟨_, rfl, fun q hq => by
        simp only [List.mem_cons, List.not_mem_nil, or_false] at hq
        rcases hq with rfl | rfl | rfl | rfl
        · exact ⟨_, d0_Row_init, ⟨_, rfl⟩⟩
        · exact ⟨_, d1_Row_init, ⟨_, rfl⟩⟩
        · exact ⟨_, d2_Row_init, rfl⟩
        · exact ⟨_, d3_Row_init, rfl⟩⟩⟩, k_Row_init⟩, mkR := ⟨mk_Row, i_Row_init, if_Row_init, kc_Row⟩,
    f_Row_base := _, fd_Row_base := _, F_Row_base := fun_mk (st := s_Row_base) l_Row_base c_Row_base k_Row_base, b_Row_base := (fun_mk (st := s_Row_base) l_Row_base c_Row_base k_Row_base).binds (ps := ["self"]) fun _ _ _ _ _ _ us hl => match us, hl with | [_], _ => rfl,
    q_Row_base := _, p_Row_base := ⟨at_Row_base, gt_Row_base, tk_Row_base, _, rc_Row_base⟩,
    f_Row_move_cost := _, fd_Row_move_cost := _, F_Row_move_cost := fun_mk (st := s_Row_move_cost) l_Row_move_cost c_Row_move_cost k_Row_move_cost, b_Row_move_cost := (fun_mk (st := s_Row_move_cost) l_Row_move_cost c_Row_move_cost k_Row_move_cost).binds (ps := ["self"]) fun _ _ _ _ _ _ us hl => match us, hl with | [_], _ => rfl,
    q_Row_move_cost := _, p_Row_move_cost := ⟨at_Row_move_cost, gt_Row_move_cost, tk_Row_move_cost, _, rc_Row_move_cost⟩,
    f_Row_add_cost := _, fd_Row_add_cost := _, F_Row_add_cost := fun_mk (st := s_Row_add_cost) l_Row_add_cost c_Row_add_cost k_Row_add_cost, b_Row_add_cost := (fun_mk (st := s_Row_add_cost) l_Row_add_cost c_Row_add_cost k_Row_add_cost).binds (ps := ["self"]) fun _ _ _ _ _ _ us hl => match us, hl with | [_], _ => rfl,
    q_Row_add_cost := _, p_Row_add_cost := ⟨at_Row_add_cost, gt_Row_add_cost, tk_Row_add_cost, _, rc_Row_add_cost⟩,
    f_Row_first := _, fd_Row_first := _, F_Row_first := fun_mk (st := s_Row_first) l_Row_first c_Row_first k_Row_first, b_Row_first := (fun_mk (st := s_Row_first) l_Row_first c_Row_first k_Row_first).binds (ps := ["self"]) fun _ _ _ _ _ _ us hl => match us, hl with | [_], _ => rfl,
    q_Row_first := _, p_Row_first := ⟨at_Row_first, gt_Row_first, tk_Row_first, _, rc_Row_first⟩,
    f_Row_last := _, fd_Row_last := _, F_Row_last := fun_mk (st := s_Row_last) l_Row_last c_Row_last k_Row_last, b_Row_last := (fun_mk (st := s_Row_last) l_Row_last c_Row_last k_Row_last).binds (ps := ["self"]) fun _ _ _ _ _ _ us hl => match us, hl with | [_], _ => rfl,
    q_Row_last := _, p_Row_last := ⟨at_Row_last, gt_Row_last, tk_Row_last, _, rc_Row_last⟩,
    f_Row_has_place := _, fd_Row_has_place := _, F_Row_has_place := fun_mk (st := s_Row_has_place) l_Row_has_place c_Row_has_place k_Row_has_place, b_Row_has_place := (fun_mk (st := s_Row_has_place) l_Row_has_place c_Row_has_place k_Row_has_place).binds (ps := ["self", "value"]) fun _ _ _ _ _ _ us hl => match us, hl with | [_, _], _ => rfl,
    m_Row_has_place := ⟨at_Row_has_place, if_Row_has_place, k_Row_has_place⟩,
    f_Row_eq := _, fd_Row_eq := _, F_Row_eq := fun_mk (st := s_Row_eq) l_Row_eq c_Row_eq k_Row_eq, b_Row_eq := (fun_mk (st := s_Row_eq) l_Row_eq c_Row_eq k_Row_eq).binds (ps := ["self", "other"]) fun _ _ _ _ _ _ us hl => match us, hl with | [_, _], _ => rfl,
    m_Row_eq := ⟨at_Row_eq, if_Row_eq, k_Row_eq⟩,
    rd := ⟨rd_Row, rg_Row⟩,
    t_MIN_BASE := _, v_MIN_BASE := ⟨v_MIN_BASE, _, rfl⟩,
    t_MAX_BASE := _, v_MAX_BASE := ⟨v_MAX_BASE, _, rfl⟩,
    x_isHead := x_isHead,
    x_isNum := x_isNum,
    x_rowRow := x_rowRow,
    x_listRow := x_listRow,
    x_nfList := x_nfList,
    x_nfRow := x_nfRow }
end K01

namespace K01
open PySem L2 GL
/-- is_whole(value) -/
def sp_whole (K : PySem.W.Frag) : Sp := fun vs H Q _ => ∃ v o, vs = [v] ∧ Kd K H v o ∧ Q (.bl o.isSome) H
/-- whether a value is an integer within lo .. hi -/
def within (o : Option Int) (lo hi : Int) : Bool := match o with
  | some i => decide (lo ≤ i ∧ i ≤ hi)
  | none => false
def sp_within (K : PySem.W.Frag) : Sp := fun vs H Q _ => ∃ v o lo hi, vs = [v, .int lo, .int hi] ∧ Kd K H v o ∧ Q (.bl (within o lo hi)) H
def sp_place (K : PySem.W.Frag) : Sp := fun vs H Q _ => ∃ v o, vs = [v] ∧ Kd K H v o ∧ Q (.bl (within o (-1000) 1000)) H


theorem ok_is_whole {P : Program} {w : World} {K : PySem.W.Frag} {mg : Str → Option Value} {base : Heap} (T : Tx K mg) : FnOk P w K mg base CX0 1 T.f_is_whole T.fd_is_whole ["value"] (sp_whole K) := by
  refine (T.is_whole.F.ok sc_is_whole (fun vs H Q E h => ?_) (fun cdv A outer s H vs Q E hr h => ?_))
  · obtain ⟨v, o, rfl, hk, k⟩ := h
    rfl
  · obtain ⟨v, o, rfl, hk, k⟩ := h
    have hu := hu_of hr
    refine ⟨_, (pss_one (ps_ret (pe_and (pe_callB call_isi (by rfl) T.b_isinstance (by decide +kernel) (pa_cons (pv 0) (pa_cons (pe_bltn (v := .ty "int") (by rfl) T.b_int (by decide +kernel) rfl) pa_nil))) (pe_one (pe_not (pe_callB call_isi (by rfl) T.b_isinstance (by decide +kernel) (pa_cons (pv 0) (pa_cons (pe_bltn (v := .ty "bool") (by rfl) T.b_bool (by decide +kernel) rfl) pa_nil)))))))), ?_⟩
    obtain ⟨t, b1, b2, ty, e1, e2, e3⟩ := hk.ask
    refine ⟨_, rfl, _, _, _, _, b1, rfl, .ty _, ty, kit_ty e1, _, rfl, ?_⟩
    cases b1 with
    | false =>
      refine iteF ?_
      rw [← e3] at k
      exact k
    | true =>
      refine iteT ?_
      refine ⟨_, rfl, _, _, _, _, b2, rfl, .ty _, ty, kit_ty e2, _, rfl, ?_⟩
      rw [← e3] at k
      exact k

theorem ok_is_within {P : Program} {w : World} {K : PySem.W.Frag} {mg : Str → Option Value} {base : Heap} (T : Tx K mg) : FnOk P w K mg base CX0 2 T.f_is_within T.fd_is_within ["value", "low", "high"] (sp_within K) := by
  have G_is_whole := ok_is_whole (P := P) (w := w) (base := base) T
  refine (T.is_within.F.ok sc_is_within (fun vs H Q E h => ?_) (fun cdv A outer s H vs Q E hr h => ?_))
  · obtain ⟨v, o, lo, hi, rfl, hk, k⟩ := h
    rfl
  · obtain ⟨v, o, lo, hi, rfl, hk, k⟩ := h
    have hu := hu_of hr
    refine ⟨_, (pss_one (ps_ret (pe_and (pe_call G_is_whole (hr.mono (by decide)) rfl T.is_whole.g T.is_whole.F.kp T.is_whole.b .nil pass0 (pa_cons (pv 0) pa_nil)) (pe_one (pe_chain op_le op_le (pv 1) (pv 0) (pv 2)))))), ?_⟩
    refine ⟨_, rfl, v, o, rfl, hk, _, rfl, ?_⟩
    cases o with
    | none => exact iteF k
    | some i =>
      refine iteT ?_
      have e := hk.int_of
      subst e
      refine ⟨_, rfl, _, rfl, _, _, rfl, rfl, _, rfl, ?_⟩
      by_cases h1 : lo ≤ i
      · rw [decide_eq_true h1]
        refine iteT ⟨_, rfl, _, _, rfl, rfl, ?_⟩
        simpa [within, h1] using k
      · rw [decide_eq_false h1]
        refine iteF ?_
        simpa [within, h1] using k

theorem ok_is_place {P : Program} {w : World} {K : PySem.W.Frag} {mg : Str → Option Value} {base : Heap} (T : Tx K mg) : FnOk P w K mg base CX0 3 T.f_is_place T.fd_is_place ["value"] (sp_place K) := by
  have G_is_within := ok_is_within (P := P) (w := w) (base := base) T
  refine (T.is_place.F.ok sc_is_place (fun vs H Q E h => ?_) (fun cdv A outer s H vs Q E hr h => ?_))
  · obtain ⟨v, o, rfl, hk, k⟩ := h
    rfl
  · obtain ⟨v, o, rfl, hk, k⟩ := h
    have hu := hu_of hr
    refine ⟨_, (pss_one (ps_ret (pe_call G_is_within (hr.mono (by decide)) rfl T.is_within.g T.is_within.F.kp T.is_within.b .nil pass0 (pa_cons (pv 0) (pa_cons (pe_un un_neg (pe_glob (v := .int 1000) rfl T.c_MAX_PLACE ⟨_, rfl⟩)) (pa_cons (pe_glob (v := .int 1000) rfl T.c_MAX_PLACE ⟨_, rfl⟩) pa_nil)))))), ?_⟩
    exact ⟨_, rfl, _, rfl, v, o, -1000, 1000, rfl, hk, k⟩


def sp_cost (K : PySem.W.Frag) : Sp := fun vs H Q _ => ∃ v o, vs = [v] ∧ Kd K H v o ∧ Q (.bl (within o 1 1000000)) H
/-- None, or a place -/
def endOk (v : V) (o : Option Int) : Bool := decide (v = .non) || within o (-1000) 1000
def sp_end (K : PySem.W.Frag) : Sp := fun vs H Q _ => ∃ v o, vs = [v] ∧ Kd K H v o ∧ Q (.bl (endOk v o)) H
/-- the first invalid argument -/
def badField (b m a f l : Option Int) (vf vl : V) : Option Str :=
  if within b 2 36 = false then some "base" else if within m 1 1000000 = false then some "move" else if within a 1 1000000 = false then some "add" else
  if endOk vf f = false then some "first" else if endOk vl l = false then some "last" else
  match f, l with
  | some i, some j => if j < i then some "last" else none
  | _, _ => none
def optV : Option Str → V
  | none => .non
  | some x => .str x
def sp_bad (K : PySem.W.Frag) : Sp := fun vs H Q _ => ∃ vb vm va vf vl b m a f l, vs = [vb, vm, va, vf, vl] ∧ Kd K H vb b ∧ Kd K H vm m ∧ Kd K H va a ∧ Kd K H vf f ∧ Kd K H vl l ∧
  Q (optV (badField b m a f l vf vl)) H
theorem end_int {K : PySem.W.Frag} {H : Hp} {v : V} {o : Option Int} (k : Kd K H v o) (h : endOk v o = true) : (v = .non ∧ o = none) ∨ ∃ i, v = .int i ∧ o = some i := by
  cases k with
  | non => exact .inl ⟨rfl, rfl⟩
  | int i => exact .inr ⟨i, rfl, rfl⟩
  | _ => simp [endOk, within] at h

theorem ok_is_cost {P : Program} {w : World} {K : PySem.W.Frag} {mg : Str → Option Value} {base : Heap} (T : Tx K mg) : FnOk P w K mg base CX0 3 T.f_is_cost T.fd_is_cost ["value"] (sp_cost K) := by
  have G_is_within := ok_is_within (P := P) (w := w) (base := base) T
  refine (T.is_cost.F.ok sc_is_cost (fun vs H Q E h => ?_) (fun cdv A outer s H vs Q E hr h => ?_))
  · obtain ⟨v, o, rfl, hk, k⟩ := h
    rfl
  · obtain ⟨v, o, rfl, hk, k⟩ := h
    have hu := hu_of hr
    refine ⟨_, (pss_one (ps_ret (pe_call G_is_within (hr.mono (by decide)) rfl T.is_within.g T.is_within.F.kp T.is_within.b .nil pass0 (pa_cons (pv 0) (pa_cons pe_int (pa_cons (pe_glob (v := .int 1000000) rfl T.c_MAX_COST ⟨_, rfl⟩) pa_nil)))))), ?_⟩
    exact ⟨_, rfl, v, o, 1, 1000000, rfl, hk, k⟩

theorem ok_is_end {P : Program} {w : World} {K : PySem.W.Frag} {mg : Str → Option Value} {base : Heap} (T : Tx K mg) : FnOk P w K mg base CX0 4 T.f_is_end T.fd_is_end ["value"] (sp_end K) := by
  have G_is_place := ok_is_place (P := P) (w := w) (base := base) T
  refine (T.is_end.F.ok sc_is_end (fun vs H Q E h => ?_) (fun cdv A outer s H vs Q E hr h => ?_))
  · obtain ⟨v, o, rfl, hk, k⟩ := h
    rfl
  · obtain ⟨v, o, rfl, hk, k⟩ := h
    have hu := hu_of hr
    refine ⟨_, (pss_one (ps_ret (pe_or (pe_cmpR op_isN (pv 0) pe_non (nomark _)) (pe_one (pe_call G_is_place (hr.mono (by decide)) rfl T.is_place.g T.is_place.F.kp T.is_place.b .nil pass0 (pa_cons (pv 0) pa_nil)))))), ?_⟩
    refine ⟨_, rfl, rfl, _, rfl, ?_⟩
    by_cases hn : v = .non
    · refine ifD hn ?_
      simpa [endOk, hn] using k
    · refine ifDn hn ?_
      refine ⟨_, rfl, v, o, rfl, hk, ?_⟩
      simpa [endOk, hn] using k

theorem ok_invalid_field {P : Program} {w : World} {K : PySem.W.Frag} {mg : Str → Option Value} {base : Heap} (T : Tx K mg) : FnOk P w K mg base CX0 5 T.f_invalid_field T.fd_invalid_field ["base", "move", "add", "first", "last"] (sp_bad K) := by
  have G_is_within := ok_is_within (P := P) (w := w) (base := base) T
  have G_is_cost := ok_is_cost (P := P) (w := w) (base := base) T
  have G_is_end := ok_is_end (P := P) (w := w) (base := base) T
  refine (T.invalid_field.F.ok sc_invalid_field (fun vs H Q E h => ?_) (fun cdv A outer s H vs Q E hr h => ?_))
  · obtain ⟨vb, vm, va, vf, vl, b, m, a, f, l, rfl, kb, km, ka, kf, kl, k⟩ := h
    rfl
  · obtain ⟨vb, vm, va, vf, vl, b, m, a, f, l, rfl, kb, km, ka, kf, kl, k⟩ := h
    have hu := hu_of hr
    refine ⟨_, (pss_cons (ps_if (pt_not (pt_val (pe_call G_is_within (hr.mono (by decide)) rfl T.is_within.g T.is_within.F.kp T.is_within.b .nil pass0 (pa_cons (pv 0) (pa_cons (ClX.pe_cval (pe_glob (v := .ref T.C_Row) rfl T.g_Row rfl)) (pa_cons (ClX.pe_cval (pe_glob (v := .ref T.C_Row) rfl T.g_Row rfl)) pa_nil)))))) (pss_one (ps_ret pe_str)) pss_nil)
        (pss_cons (ps_if (pt_not (pt_val (pe_call G_is_cost (hr.mono (by decide)) rfl T.is_cost.g T.is_cost.F.kp T.is_cost.b .nil pass0 (pa_cons (pv 1) pa_nil)))) (pss_one (ps_ret pe_str)) pss_nil)
        (pss_cons (ps_if (pt_not (pt_val (pe_call G_is_cost (hr.mono (by decide)) rfl T.is_cost.g T.is_cost.F.kp T.is_cost.b .nil pass0 (pa_cons (pv 2) pa_nil)))) (pss_one (ps_ret pe_str)) pss_nil)
        (pss_cons (ps_if (pt_not (pt_val (pe_call G_is_end (hr.mono (by decide)) rfl T.is_end.g T.is_end.F.kp T.is_end.b .nil pass0 (pa_cons (pv 3) pa_nil)))) (pss_one (ps_ret pe_str)) pss_nil)
        (pss_cons (ps_if (pt_not (pt_val (pe_call G_is_end (hr.mono (by decide)) rfl T.is_end.g T.is_end.F.kp T.is_end.b .nil pass0 (pa_cons (pv 4) pa_nil)))) (pss_one (ps_ret pe_str)) pss_nil)
        (pss_cons (ps_if (PW.pt (pw_and (pt_cmpR op_notN (pv 3) pe_non (nomark _)) (pw_and (pt_cmpR op_notN (pv 4) pe_non (nomark _)) (pw_and1 (pt_cmpR op_lt (pv 4) (pv 3) (nomark _)))))) (pss_one (ps_ret pe_str)) pss_nil)
        (pss_one (ps_ret pe_non)))))))), ?_⟩
    unfold badField at k
    refine ⟨_, rfl, _, _, _, _, rfl, T.rd, T.v_MIN_BASE, _, _, _, _, rfl, T.rd, T.v_MAX_BASE, vb, b, 2, 36, rfl, kb, _, rfl, ?_⟩
    cases hb : within b 2 36 with
    | false => exact iteT (by rw [hb, if_pos rfl] at k; exact k)
    | true =>
      rw [hb, if_neg (by decide)] at k
      refine iteF ⟨_, rfl, vm, m, rfl, km, _, rfl, ?_⟩
      cases hm : within m 1 1000000 with
      | false => exact iteT (by rw [hm, if_pos rfl] at k; exact k)
      | true =>
        rw [hm, if_neg (by decide)] at k
        refine iteF ⟨_, rfl, va, a, rfl, ka, _, rfl, ?_⟩
        cases ha : within a 1 1000000 with
        | false => exact iteT (by rw [ha, if_pos rfl] at k; exact k)
        | true =>
          rw [ha, if_neg (by decide)] at k
          refine iteF ⟨_, rfl, vf, f, rfl, kf, _, rfl, ?_⟩
          cases hf : endOk vf f with
          | false => exact iteT (by rw [hf, if_pos rfl] at k; exact k)
          | true =>
            rw [hf, if_neg (by decide)] at k
            refine iteF ⟨_, rfl, vl, l, rfl, kl, _, rfl, ?_⟩
            cases hl : endOk vl l with
            | false => exact iteT (by rw [hl, if_pos rfl] at k; exact k)
            | true =>
              rw [hl, if_neg (by decide)] at k
              refine iteF ⟨_, rfl, rfl, _, rfl, ?_⟩
              rcases end_int kf hf with ⟨rfl, rfl⟩ | ⟨i, rfl, rfl⟩
              · exact iteF (iteF k)
              · refine iteT ⟨_, rfl, rfl, _, rfl, ?_⟩
                rcases end_int kl hl with ⟨rfl, rfl⟩ | ⟨j, rfl, rfl⟩
                · exact iteF (iteF k)
                · refine iteT ⟨_, rfl, _, rfl, _, _, rfl, rfl, _, rfl, ?_⟩
                  by_cases hj : j < i
                  · refine ifD hj ?_
                    simp only [hj, if_true] at k
                    exact k
                  · refine ifDn hj ?_
                    simp only [hj, if_false] at k
                    exact k


/-- a row at p, its settings at q -/
structure RowAt (K : PySem.W.Frag) (C : Addr) (H : Hp) (p : Addr) (xs : List V) : Prop where
  ob : ∃ dx q, H p = some (.ins C dx [("settings", .ref q)]) ∧ H q = some (.tup xs)
theorem rowAt_same {K : PySem.W.Frag} {C : Addr} {H H' : Hp} {p : Addr} {xs : List V} (e : Same H H') (h : RowAt K C H p xs) : RowAt K C H' p xs := by
  obtain ⟨dx, q, h1, h2⟩ := h.ob
  exact ⟨dx, q, e _ _ h1, e _ _ h2⟩
/-- a getter -/
def sp_get (K : PySem.W.Frag) (C : Addr) (i : Nat) : Sp := fun vs H Q _ => ∃ p b m a f l, vs = [.ref p] ∧ RowAt K C H p [b, m, a, f, l] ∧ Q ([b, m, a, f, l].getD i .non) H
/-- Row(base, move, add, first, last): __init__ of a new row -/
def sp_init (K : PySem.W.Frag) (C CE : Addr) : Sp := fun vs H Q E => ∃ p dx vb vm va vf vl b m a f l, vs = [.ref p, vb, vm, va, vf, vl] ∧ H p = some (.ins C dx []) ∧
  Kd K H vb b ∧ Kd K H vm m ∧ Kd K H va a ∧ Kd K H vf f ∧ Kd K H vl l ∧
  (∀ x, badField b m a f l vf vl = some x → ∀ (H' : Hp) (d : Addr), Same H H' → H d = none → H' d = some (.xd [("field", .str x)]) → E (.ref CE) (some d) H') ∧
  (badField b m a f l vf vl = none → ∀ (H' : Hp), (∀ c o, c ≠ p → H c = some o → H' c = some o) → RowAt K C H' p [vb, vm, va, vf, vl] → Q .non H')
theorem settings_look (q : Addr) : ([(("settings" : Str), V.ref q)] : List (Str × V)).lookup ("settings" : Str) = some (.ref q) := by simp [List.lookup]

theorem ok_Row_init {P : Program} {w : World} {K : PySem.W.Frag} {mg : Str → Option Value} {base : Heap} (T : Tx K mg) : FnOk P w K mg base (L2.CX P w) 6 T.f_Row_init T.fd_Row_init ["self", "base", "move", "add", "first", "last"] (sp_init K T.C_Row T.C_InvalidRow) := by
  have G_invalid_field := ok_invalid_field (P := P) (w := w) (base := base) T
  refine (T.F_Row_init.ok sc_Row_init (fun vs H Q E h => ?_) (fun cdv A outer s H vs Q E hr h => ?_))
  · obtain ⟨p, dx, vb, vm, va, vf, vl, b, m, a, f, l, rfl, hp, kb, km, ka, kf, kl, kE, kQ⟩ := h
    rfl
  · obtain ⟨p, dx, vb, vm, va, vf, vl, b, m, a, f, l, rfl, hp, kb, km, ka, kf, kl, kE, kQ⟩ := h
    have hu := hu_of hr
    refine ⟨_, (pss_cons (ps_set (i := 6) sc_Row_init.nd rfl (Or.inl rfl) (pe_call G_invalid_field (hr.mono (by decide)) rfl T.invalid_field.g T.invalid_field.F.kp T.invalid_field.b .nil pass0 (pa_cons (pv 1) (pa_cons (pv 2) (pa_cons (pv 3) (pa_cons (pv 4) (pa_cons (pv 5) pa_nil)))))))
        (pss_cons (ps_if (pt_cmpR op_notN (pv 6) pe_non (nomark _)) (pss_one (ps_raiseErr rfl T.InvalidRow hr (takes_of rfl rfl rfl rfl) (pa_cons (pv 6) pa_nil))) pss_nil)
        (pss_one (ps_fld (pv 0) (pe_tup (pa_cons (pv 1) (pa_cons (pv 2) (pa_cons (pv 3) (pa_cons (pv 4) (pa_cons (pv 5) pa_nil)))))) rfl)))), ?_⟩
    refine ⟨_, rfl, _, rfl, _, rfl, _, rfl, _, rfl, vb, vm, va, vf, vl, b, m, a, f, l, rfl, kb, km, ka, kf, kl, ?_⟩
    refine ⟨_, rfl, rfl, _, rfl, ?_⟩
    cases hx : badField b m a f l vf vl with
    | some x =>
      refine ifN (fun z => nomatch z) ?_
      refine ⟨_, rfl, _, rfl, fun d hd => ?_⟩
      exact kE x hx _ d (same_new (Same.refl H) hd) hd upd_same
    | none =>
      refine ifNn rfl ?_
      refine ⟨_, rfl, _, rfl, _, rfl, _, rfl, _, rfl, (by show 5 ≤ sizeLine; decide), fun q hq => ?_⟩
      have npq : p ≠ q := ne_of_none hp hq
      refine ⟨_, rfl, p, T.C_Row, dx, _, rfl, by rw [upd_ne npq]; exact hp, T.cl, T.nS, by decide, ?_⟩
      refine kQ hx _ (fun c o hc e => ?_) ⟨dx, q, upd_same, by rw [upd_ne npq.symm]; exact upd_same⟩
      rw [upd_ne hc, upd_ne (fun z => by rw [z, hq] at e; cases e)]
      exact e

theorem ok_Row_base {P : Program} {w : World} {K : PySem.W.Frag} {mg : Str → Option Value} {base : Heap} (T : Tx K mg) : FnOk P w K mg base CX0 1 T.f_Row_base T.fd_Row_base ["self"] (sp_get K T.C_Row 0) := by
  refine (T.F_Row_base.ok sc_Row_base (fun vs H Q E h => ?_) (fun cdv A outer s H vs Q E hr h => ?_))
  · obtain ⟨p, b, m, a, f, l, rfl, hR, k⟩ := h
    rfl
  · obtain ⟨p, b, m, a, f, l, rfl, hR, k⟩ := h
    have hu := hu_of hr
    refine ⟨_, (pss_one (ps_ret (pe_ix ix_tup (pe_fld (pv 0) rfl) pe_int (fun _ _ => rfl)))), ?_⟩
    obtain ⟨dx, q, h1, h2⟩ := hR.ob
    exact ⟨_, rfl, p, T.C_Row, dx, _, _, rfl, h1, T.cl, T.nS, settings_look q, q, _, _, _, rfl, rfl, SqT.of h2, rfl, k⟩

theorem ok_Row_move_cost {P : Program} {w : World} {K : PySem.W.Frag} {mg : Str → Option Value} {base : Heap} (T : Tx K mg) : FnOk P w K mg base CX0 1 T.f_Row_move_cost T.fd_Row_move_cost ["self"] (sp_get K T.C_Row 1) := by
  refine (T.F_Row_move_cost.ok sc_Row_move_cost (fun vs H Q E h => ?_) (fun cdv A outer s H vs Q E hr h => ?_))
  · obtain ⟨p, b, m, a, f, l, rfl, hR, k⟩ := h
    rfl
  · obtain ⟨p, b, m, a, f, l, rfl, hR, k⟩ := h
    have hu := hu_of hr
    refine ⟨_, (pss_one (ps_ret (pe_ix ix_tup (pe_fld (pv 0) rfl) pe_int (fun _ _ => rfl)))), ?_⟩
    obtain ⟨dx, q, h1, h2⟩ := hR.ob
    exact ⟨_, rfl, p, T.C_Row, dx, _, _, rfl, h1, T.cl, T.nS, settings_look q, q, _, _, _, rfl, rfl, SqT.of h2, rfl, k⟩

theorem ok_Row_add_cost {P : Program} {w : World} {K : PySem.W.Frag} {mg : Str → Option Value} {base : Heap} (T : Tx K mg) : FnOk P w K mg base CX0 1 T.f_Row_add_cost T.fd_Row_add_cost ["self"] (sp_get K T.C_Row 2) := by
  refine (T.F_Row_add_cost.ok sc_Row_add_cost (fun vs H Q E h => ?_) (fun cdv A outer s H vs Q E hr h => ?_))
  · obtain ⟨p, b, m, a, f, l, rfl, hR, k⟩ := h
    rfl
  · obtain ⟨p, b, m, a, f, l, rfl, hR, k⟩ := h
    have hu := hu_of hr
    refine ⟨_, (pss_one (ps_ret (pe_ix ix_tup (pe_fld (pv 0) rfl) pe_int (fun _ _ => rfl)))), ?_⟩
    obtain ⟨dx, q, h1, h2⟩ := hR.ob
    exact ⟨_, rfl, p, T.C_Row, dx, _, _, rfl, h1, T.cl, T.nS, settings_look q, q, _, _, _, rfl, rfl, SqT.of h2, rfl, k⟩

theorem ok_Row_first {P : Program} {w : World} {K : PySem.W.Frag} {mg : Str → Option Value} {base : Heap} (T : Tx K mg) : FnOk P w K mg base CX0 1 T.f_Row_first T.fd_Row_first ["self"] (sp_get K T.C_Row 3) := by
  refine (T.F_Row_first.ok sc_Row_first (fun vs H Q E h => ?_) (fun cdv A outer s H vs Q E hr h => ?_))
  · obtain ⟨p, b, m, a, f, l, rfl, hR, k⟩ := h
    rfl
  · obtain ⟨p, b, m, a, f, l, rfl, hR, k⟩ := h
    have hu := hu_of hr
    refine ⟨_, (pss_one (ps_ret (pe_ix ix_tup (pe_fld (pv 0) rfl) pe_int (fun _ _ => rfl)))), ?_⟩
    obtain ⟨dx, q, h1, h2⟩ := hR.ob
    exact ⟨_, rfl, p, T.C_Row, dx, _, _, rfl, h1, T.cl, T.nS, settings_look q, q, _, _, _, rfl, rfl, SqT.of h2, rfl, k⟩

theorem ok_Row_last {P : Program} {w : World} {K : PySem.W.Frag} {mg : Str → Option Value} {base : Heap} (T : Tx K mg) : FnOk P w K mg base CX0 1 T.f_Row_last T.fd_Row_last ["self"] (sp_get K T.C_Row 4) := by
  refine (T.F_Row_last.ok sc_Row_last (fun vs H Q E h => ?_) (fun cdv A outer s H vs Q E hr h => ?_))
  · obtain ⟨p, b, m, a, f, l, rfl, hR, k⟩ := h
    rfl
  · obtain ⟨p, b, m, a, f, l, rfl, hR, k⟩ := h
    have hu := hu_of hr
    refine ⟨_, (pss_one (ps_ret (pe_ix ix_tup (pe_fld (pv 0) rfl) pe_int (fun _ _ => rfl)))), ?_⟩
    obtain ⟨dx, q, h1, h2⟩ := hR.ob
    exact ⟨_, rfl, p, T.C_Row, dx, _, _, rfl, h1, T.cl, T.nS, settings_look q, q, _, _, _, rfl, rfl, SqT.of h2, rfl, k⟩


def loOk (i : Int) : Option Int → Bool
  | some a => decide (a ≤ i)
  | none => true
def hiOk (i : Int) : Option Int → Bool
  | some b => decide (i ≤ b)
  | none => true
/-- has_place -/
def hasP (f l : Option Int) : Option Int → Bool
  | some i => decide (-1000 ≤ i ∧ i ≤ 1000) && loOk i f && hiOk i l
  | none => false
def intV : Option Int → V
  | none => .non
  | some i => .int i
def sp_has (K : PySem.W.Frag) (C : Addr) : Sp := fun vs H Q _ => ∃ p b m a f l v o, vs = [.ref p, v] ∧ RowAt K C H p [b, m, a, intV f, intV l] ∧ Kd K H v o ∧ Q (.bl (hasP f l o)) H

theorem ok_Row_has_place {P : Program} {w : World} {K : PySem.W.Frag} {mg : Str → Option Value} {base : Heap} (T : Tx K mg) : FnOk P w K mg base CX0 4 T.f_Row_has_place T.fd_Row_has_place ["self", "value"] (sp_has K T.C_Row) := by
  have G_is_place := ok_is_place (P := P) (w := w) (base := base) T
  have G_Row_first := ok_Row_first (P := P) (w := w) (base := base) T
  have G_Row_last := ok_Row_last (P := P) (w := w) (base := base) T
  refine (T.F_Row_has_place.ok sc_Row_has_place (fun vs H Q E h => ?_) (fun cdv A outer s H vs Q E hr h => ?_))
  · obtain ⟨p, b, m, a, f, l, v, o, rfl, hR, kv, k⟩ := h
    rfl
  · obtain ⟨p, b, m, a, f, l, v, o, rfl, hR, kv, k⟩ := h
    have hu := hu_of hr
    refine ⟨_, (pss_cons (ps_if (pt_not (pt_val (pe_call G_is_place (hr.mono (by decide)) rfl T.is_place.g T.is_place.F.kp T.is_place.b .nil pass0 (pa_cons (pv 1) pa_nil)))) (pss_one (ps_ret pe_bl)) pss_nil)
        (pss_cons (ps_if (PW.pt (pw_and (pt_cmpR op_notN (pe_prop (pv 0) T.cl T.p_Row_first G_Row_first (hr.mono (by decide)) T.b_Row_first .nil pass0 rfl) pe_non (nomark _)) (pw_and1 (pt_cmpR op_lt (pv 1) (pe_prop (pv 0) T.cl T.p_Row_first G_Row_first (hr.mono (by decide)) T.b_Row_first .nil pass0 rfl) (nomark _))))) (pss_one (ps_ret pe_bl)) pss_nil)
        (pss_one (ps_ret (pe_or (pe_cmpR op_isN (pe_prop (pv 0) T.cl T.p_Row_last G_Row_last (hr.mono (by decide)) T.b_Row_last .nil pass0 rfl) pe_non (nomark _)) (pe_one (pe_cmpR op_le (pv 1) (pe_prop (pv 0) T.cl T.p_Row_last G_Row_last (hr.mono (by decide)) T.b_Row_last .nil pass0 rfl) (nomark _)))))))), ?_⟩
    obtain ⟨dx, q, h1, h2⟩ := id hR.ob
    refine ⟨_, rfl, v, o, rfl, kv, _, rfl, ?_⟩
    cases o with
    | none => exact iteT k
    | some i =>
      have e := kv.int_of
      subst e
      by_cases hp : -1000 ≤ i ∧ i ≤ 1000
      · have hw : within (some i) (-1000) 1000 = true := decide_eq_true hp
        rw [hw]
        refine iteF ?_
        simp only [hasP, hp, and_self, decide_true, Bool.true_and] at k
        have last : loOk i f = true → (tRet (tOrV (tOp (fun x y H Q => y = .non ∧ Q (.bl (decide (x = .non))) H) (tProp T.C_Row (sp_get K T.C_Row 4) [] E0 (tVar 0)) (tC .non)) (tOp (rI0 fun i j => .bl (decide (i ≤ j))) (tVar 1) (tProp T.C_Row (sp_get K T.C_Row 4) [] E0 (tVar 0)))) { nx := fun _ H' => Q .non H', rt := Q } [some (.ref p), some (.int i)] H) := by
          intro hf
          rw [hf, Bool.true_and] at k
          refine ⟨_, rfl, p, dx, _, rfl, h1, p, b, m, a, intV f, intV l, rfl, hR, rfl, _, rfl, ?_⟩
          cases l with
          | none =>
            refine iteT ?_
            exact k
          | some j =>
            refine iteF ?_
            exact ⟨_, rfl, _, rfl, p, dx, _, rfl, h1, p, b, m, a, intV f, intV (some j), rfl, hR, _, _, rfl, rfl, k⟩
        refine ⟨_, rfl, p, dx, _, rfl, h1, p, b, m, a, intV f, intV l, rfl, hR, rfl, _, rfl, ?_⟩
        cases f with
        | none =>
          refine iteF ?_
          refine iteF ?_
          exact last rfl
        | some c =>
          refine iteT ?_
          refine ⟨_, rfl, _, rfl, p, dx, _, rfl, h1, p, b, m, a, intV (some c), intV l, rfl, hR, _, _, rfl, rfl, _, rfl, ?_⟩
          by_cases hc : i < c
          · refine ifD hc ?_
            have : ¬ c ≤ i := by omega
            have k' : Q (V.bl false) H := by simpa [loOk, this] using k
            exact k'
          · refine ifDn hc ?_
            have : c ≤ i := by omega
            exact last (by simp [loOk, this])
      · have hw : within (some i) (-1000) 1000 = false := decide_eq_false hp
        rw [hw]
        refine iteT ?_
        have k' : Q (V.bl false) H := by simpa [hasP, hp] using k
        exact k'

end K01

namespace K01
open PySem L2 GL
theorem atI_int {xs : List V} {k : Int} {x : V} (h0 : 0 ≤ k) (h : xs[k.toNat]? = some x) : atI xs k = some x := by
  have e : k = ((k.toNat : Nat) : Int) := by omega
  rw [e]
  exact atI_nat h
theorem get_map {ns : List Int} {i : Nat} {z : Int} (h : ns[i]? = some z) : (ns.map V.int)[i]? = some (.int z) := by
  rw [List.getElem?_map, h]
  rfl
/-- digits below sizes -/
def Below (ds sz : List Int) : Prop := ∀ (i : Nat) (d z : Int), ds[i]? = some d → sz[i]? = some z → 0 ≤ d ∧ d < z
/-- _law_numbers(cell, salt, sizes) -/
def sp_numbers (K : PySem.W.Frag) : Sp := fun vs H Q _ => ∃ (cell salt : Int) (a : Addr) (sz : List Int), vs = [.int cell, .int salt, .ref a] ∧ 0 ≤ salt ∧ salt ≤ 20000 ∧
  SqL K H a (sz.map V.int) ∧ sz.length ≤ 500 ∧ (∀ z ∈ sz, 0 < z ∧ z ≤ 5000) ∧
  ∀ (H' : Hp) (p : Addr) (ds : List Int), Same H H' → H p = none → H' p = some (.lst (ds.map V.int)) → ds.length = sz.length → Below ds sz → Q (.ref p) H'
theorem below_more {ds sz : List Int} {x z : Int} (h : Below ds sz) (hz : sz[ds.length]? = some z) (h0 : 0 ≤ x) (h1 : x < z) : Below (ds ++ [x]) sz := by
  intro i d y hd hy
  by_cases q : i < ds.length
  · rw [List.getElem?_append_left q] at hd
    exact h i d y hd hy
  · rw [List.getElem?_append_right (by omega)] at hd
    have e : i = ds.length := by
      have := (List.getElem?_eq_some_iff.mp hd).1
      simp at this
      omega
    subst e
    rw [hz] at hy
    cases hy
    rw [Nat.sub_self] at hd
    cases hd
    exact ⟨h0, h1⟩
theorem map_more (ds : List Int) (x : Int) : (ds ++ [x]).map V.int = ds.map V.int ++ [.int x] := by simp

theorem ok_law_numbers {P : Program} {w : World} {K : PySem.W.Frag} {mg : Str → Option Value} {base : Heap} (T : Tx K mg) : FnOk P w K mg base CX0 1 T.f_law_numbers T.fd_law_numbers ["_law_cell", "_law_salt", "_law_sizes"] (sp_numbers K) := by
  refine (T.law_numbers.F.ok sc_law_numbers (fun vs H Q E h => ?_) (fun cdv A outer s H vs Q E hr h => ?_))
  · obtain ⟨cell, salt, a, sz, rfl, hs0, hs1, hS, hlen, hpos, k⟩ := h
    rfl
  · obtain ⟨cell, salt, a, sz, rfl, hs0, hs1, hS, hlen, hpos, k⟩ := h
    have hu := hu_of hr
    refine ⟨_, (pss_cons (ps_set (i := 3) sc_law_numbers.nd rfl (Or.inl rfl) (pe_callB (call_max2 rfl) (by rfl) T.b_max (by decide +kernel) (pa_cons (pv 0) (pa_cons (pe_op op_sub (pe_un un_neg pe_int) (pv 0)) pa_nil))))
        (pss_cons (ps_set (i := 4) sc_law_numbers.nd rfl (Or.inl rfl) (pv 3))
        (pss_cons (ps_set (i := 5) sc_law_numbers.nd rfl (Or.inl rfl) (pe_lst pa_nil))
        (pss_cons (ps_for PassesOwn.never rfl (pi_range1 rfl T.b_range (pa_cons (pe_callB call_len_seq (by rfl) T.b_len (by decide +kernel) (pa_cons (pv 2) pa_nil)) pa_nil)) (pg_name (i := 6) sc_law_numbers.nd rfl (Or.inl rfl)) (pss_one (ps_if (PW.pt (pw_and (pt_cmpR op_ge (pv 3) (pe_op op_pow pe_int pe_int) (nomark _)) (pw_and1 (pt_cmpR op_gt (pv 4) pe_int (nomark _))))) (pss_cons (ps_expr (pe_bm PySem.F.plainAttrs_list PySem.F.slot_list_append PySem.F.type_list_append mt_append (pv 5) (pa_cons (pe_op op_mod (pv 4) (pe_ix ix_list (pv 2) (pv 6) (fun _ _ => rfl))) pa_nil)))
        (pss_one (ps_set (i := 4) sc_law_numbers.nd rfl (Or.inl rfl) (pe_op op_fdiv (pv 4) (pe_ix ix_list (pv 2) (pv 6) (fun _ _ => rfl)))))) (pss_cons (ps_set (i := 7) sc_law_numbers.nd rfl (Or.inl rfl) (pe_op op_mod (pe_op op_pow (pe_op op_add (pe_op op_add (pe_op op_mod (pv 3) pe_int) (pe_op op_mul pe_int (pv 1))) pe_int) pe_int) pe_int))
        (pss_cons (ps_set (i := 7) sc_law_numbers.nd rfl (Or.inl rfl) (pe_op op_mod (pe_op op_mul (pe_op op_add (pv 7) (pe_op op_mul pe_int (pe_op op_add (pv 6) pe_int))) (pe_op op_add (pv 6) pe_int)) pe_int))
        (pss_cons (ps_set (i := 7) sc_law_numbers.nd rfl (Or.inl rfl) (pe_op op_mod (pe_op op_mul (pe_op op_mod (pe_op op_pow (pv 7) pe_int) pe_int) pe_int) pe_int))
        (pss_one (ps_expr (pe_bm PySem.F.plainAttrs_list PySem.F.slot_list_append PySem.F.type_list_append mt_append (pv 5) (pa_cons (pe_op op_mod (pe_op op_fdiv (pv 7) pe_int) (pe_ix ix_list (pv 2) (pv 6) (fun _ _ => rfl))) pa_nil))))))))))
        (pss_one (ps_ret (pv 5))))))), ?_⟩
    refine ⟨_, rfl, _, rfl, _, rfl, _, _, rfl, rfl, _, _, rfl, ?_⟩
    generalize (if -1 - cell > cell then -1 - cell else cell) = num
    refine ⟨_, rfl, (by show 0 ≤ sizeLine; decide), fun p hp => ?_⟩
    have neA : ∀ {H' : Hp}, Same H H' → SqL K H' a (sz.map V.int) := fun s => s.seq hS
    refine ⟨_, rfl, a, sz.map V.int, rfl, .inl (neA (same_new (Same.refl H) hp)), _, rfl, (by omega), (by rw [List.length_map]; omega), ?_⟩
    rw [List.length_map]
    have en : ((sz.length : Nat) : Int).toNat = sz.length := by omega
    rw [en]
    refine for_range (lo := 0) (n := sz.length) (fun i σ H' => ∃ (left : Int) (ds : List Int) (v6 v7 : Option V), σ = [some (.int cell), some (.int salt), some (.ref a), some (.int num), some (.int left), some (.ref p), v6, v7] ∧
      H' p = some (.lst (ds.map V.int)) ∧ Same H H' ∧ ds.length = i ∧ Below ds sz) ?_ ?_ ?_
    · exact ⟨num, [], none, none, rfl, upd_same, same_new (Same.refl H) hp, rfl, fun i d z h => by simp at h⟩
    · rintro i σ H' hi ⟨left, ds, v6, v7, rfl, hl, sm, rfl, bl⟩
      obtain ⟨z, hz⟩ : ∃ z, sz[ds.length]? = some z := ⟨_, List.getElem?_eq_getElem hi⟩
      obtain ⟨z0, z1⟩ := hpos z (List.mem_of_getElem? hz)
      have e0 : (0 + (ds.length : Int)).toNat = ds.length := by omega
      have at1 : atI (sz.map V.int) (0 + (ds.length : Int)) = some (.int z) := atI_int (by omega) (by rw [e0]; exact get_map hz)
      have hS' := neA sm
      have small : (ds.map V.int).length < sizeLine := by rw [List.length_map]; exact small1000 (by omega)
      have fin : ∀ (y : Int) (w7 : Option V), ∃ (left' : Int) (ds' : List Int) (v6 v7 : Option V), [some (V.int cell), some (.int salt), some (.ref a), some (.int num), some (.int left), some (.ref p), some (.int (0 + (ds.length : Int))), w7] =
          [some (V.int cell), some (.int salt), some (.ref a), some (.int num), some (.int left'), some (.ref p), v6, v7] ∧ (upd H' p (.lst (ds.map V.int ++ [.int (y % z)]))) p = some (.lst (ds'.map V.int)) ∧
          Same H (upd H' p (.lst (ds.map V.int ++ [.int (y % z)]))) ∧ ds'.length = ds.length + 1 ∧ Below ds' sz := fun y w7 =>
        ⟨left, ds ++ [y % z], _, w7, rfl, by rw [upd_same, map_more], same_new sm hp, by simp, below_more bl hz (Int.emod_nonneg _ (by omega)) (Int.emod_lt_of_pos _ z0)⟩
      refine ⟨_, rfl, _, _, rfl, rfl, ⟨by decide, by decide, by decide⟩, _, _, rfl, rfl, _, rfl, ?_⟩
      by_cases h18 : (10 : Int) ^ 18 ≤ num
      · refine ifD h18 ?_
        refine ⟨_, rfl, _, _, rfl, rfl, _, rfl, ?_⟩
        by_cases hl0 : 0 < left
        · refine ifD hl0 ?_
          refine ⟨_, rfl, .inl ⟨rfl, _, SqL.of hl⟩, _, rfl, _, rfl, _, rfl, a, _, _, _, rfl, rfl, hS', at1, _, _, rfl, rfl, z0, p, _, _, rfl, rfl, hl, small, ?_⟩
          refine ⟨_, rfl, _, rfl, _, rfl, a, _, _, _, rfl, rfl, neA (same_new sm hp), at1, _, _, rfl, rfl, ⟨z0, by omega⟩, ?_⟩
          refine ⟨left / z, ds ++ [left % z], some (.int (0 + (ds.length : Int))), v7, rfl, ?_, same_new sm hp, by simp, below_more bl hz (Int.emod_nonneg _ (by omega)) (Int.emod_lt_of_pos _ z0)⟩
          rw [upd_same, map_more]
        · refine ifDn hl0 ?_
          have m1 := Int.emod_nonneg num (show (2147483629 : Int) ≠ 0 by decide)
          have m2 := Int.emod_lt_of_pos num (show (0 : Int) < 2147483629 by decide)
          refine ⟨_, rfl, _, _, rfl, rfl, (by show (0 : Int) < 2147483629; decide), _, rfl, _, _, rfl, rfl, (.inl ⟨by decide, by decide⟩), _, _, rfl, rfl, _, _, rfl, rfl, ?_⟩
          refine ⟨_, _, rfl, rfl, ⟨by decide, by decide, by omega⟩, _, _, rfl, rfl, (by show (0 : Int) < 2147483647; decide), ?_⟩
          refine ⟨_, rfl, _, rfl, _, _, rfl, rfl, _, _, rfl, rfl, (.inl ⟨by decide, by decide⟩), _, _, rfl, rfl, ?_⟩
          refine ⟨_, rfl, _, _, rfl, rfl, _, _, rfl, rfl, (.inr ⟨by omega, by omega⟩), _, _, rfl, rfl, (by show (0 : Int) < 2147483629; decide), ?_⟩
          refine ⟨_, rfl, _, _, rfl, rfl, ⟨by decide, by decide, by omega⟩, _, _, rfl, rfl, (by show (0 : Int) < 2147483647; decide), _, _, rfl, rfl, (.inr ⟨by decide, by decide⟩), _, _, rfl, rfl, (by show (0 : Int) < 2147483629; decide), ?_⟩
          refine ⟨_, rfl, .inl ⟨rfl, _, SqL.of hl⟩, _, rfl, _, _, rfl, rfl, ⟨by decide, by decide⟩, _, rfl, _, rfl, a, _, _, _, rfl, rfl, hS', at1, _, _, rfl, rfl, z0, p, _, _, rfl, rfl, hl, small, ?_⟩
          exact fin _ _
      · refine ifDn h18 ?_
        have m1 := Int.emod_nonneg num (show (2147483629 : Int) ≠ 0 by decide)
        have m2 := Int.emod_lt_of_pos num (show (0 : Int) < 2147483629 by decide)
        refine ⟨_, rfl, _, _, rfl, rfl, (by show (0 : Int) < 2147483629; decide), _, rfl, _, _, rfl, rfl, (.inl ⟨by decide, by decide⟩), _, _, rfl, rfl, _, _, rfl, rfl, ?_⟩
        refine ⟨_, _, rfl, rfl, ⟨by decide, by decide, by omega⟩, _, _, rfl, rfl, (by show (0 : Int) < 2147483647; decide), ?_⟩
        refine ⟨_, rfl, _, rfl, _, _, rfl, rfl, _, _, rfl, rfl, (.inl ⟨by decide, by decide⟩), _, _, rfl, rfl, ?_⟩
        refine ⟨_, rfl, _, _, rfl, rfl, _, _, rfl, rfl, (.inr ⟨by omega, by omega⟩), _, _, rfl, rfl, (by show (0 : Int) < 2147483629; decide), ?_⟩
        refine ⟨_, rfl, _, _, rfl, rfl, ⟨by decide, by decide, by omega⟩, _, _, rfl, rfl, (by show (0 : Int) < 2147483647; decide), _, _, rfl, rfl, (.inr ⟨by decide, by decide⟩), _, _, rfl, rfl, (by show (0 : Int) < 2147483629; decide), ?_⟩
        refine ⟨_, rfl, .inl ⟨rfl, _, SqL.of hl⟩, _, rfl, _, _, rfl, rfl, ⟨by decide, by decide⟩, _, rfl, _, rfl, a, _, _, _, rfl, rfl, hS', at1, _, _, rfl, rfl, z0, p, _, _, rfl, rfl, hl, small, ?_⟩
        exact fin _ _
    · rintro σ H' ⟨left, ds, v6, v7, rfl, hl, sm, hlen, bl⟩
      exact ⟨_, rfl, k H' p ds sm hp hl hlen bl⟩


/-- digits below 420, as many as that -/
def Digs (ds : List Int) (n : Nat) : Prop := n ≤ ds.length ∧ ∀ d ∈ ds, 0 ≤ d ∧ d < 420
theorem digs_at {ds : List Int} {n : Nat} (h : Digs ds n) (i : Nat) (hi : i < n) : ∃ d, atI (ds.map V.int) ((i : Nat) : Int) = some (.int d) ∧ 0 ≤ d ∧ d < 420 := by
  have hl : i < ds.length := Nat.lt_of_lt_of_le hi h.1
  have e : ds[i]? = some ds[i] := List.getElem?_eq_getElem hl
  obtain ⟨h0, h1⟩ := h.2 _ (List.getElem_mem hl)
  exact ⟨ds[i], atI_nat (get_map e), h0, h1⟩

theorem cut_some (ns : List Int) (lo hi : Option Int) : ∃ zs : List Int, cutV (ns.map V.int) lo hi = zs.map V.int ∧ zs.length ≤ ns.length := by
  unfold cutV
  refine ⟨List.take (HT.sIx (ns.map V.int).length (ns.map V.int).length hi - HT.sIx (ns.map V.int).length 0 lo) (List.drop (HT.sIx (ns.map V.int).length 0 lo) ns), ?_, ?_⟩
  · rw [← List.map_drop, ← List.map_take]
  · rw [List.length_take, List.length_drop]
    omega
theorem cut_from (ds : List Int) (i : Nat) (h : i ≤ ds.length) : cutV (ds.map V.int) (some (i : Int)) none = (ds.drop i).map V.int := by
  unfold cutV
  have e : HT.sIx (ds.map V.int).length 0 (some (i : Int)) = i := by
    unfold HT.sIx
    rw [List.length_map]
    simp only []
    rw [if_neg (by omega)]
    omega
  have e2 : HT.sIx (ds.map V.int).length (ds.map V.int).length none = ds.length := by
    unfold HT.sIx
    rw [List.length_map]
  rw [e, e2, ← List.map_drop, ← List.map_take, List.take_of_length_le (by rw [List.length_drop]; omega)]
theorem digs_drop {ds : List Int} {n : Nat} (h : Digs ds n) (i k : Nat) (hk : i + k ≤ n) : Digs (ds.drop i) k :=
  ⟨by rw [List.length_drop]; have := h.1; omega, fun d hd => h.2 d (List.mem_of_mem_drop hd)⟩
theorem digs_of {ds : List Int} {n : Nat} (hl : ds.length = n) (b : Below ds (List.replicate n 420)) : Digs ds n := by
  refine ⟨by omega, fun d hd => ?_⟩
  obtain ⟨i, hi, rfl⟩ := List.getElem_of_mem hd
  exact b i _ 420 (List.getElem?_eq_getElem hi) (by rw [List.getElem?_replicate, if_pos (by omega)])


def okEnd : Option Int → Prop
  | none => True
  | some i => -1000 ≤ i ∧ i ≤ 1000
def sp_lend : Sp := fun vs H Q _ => ∃ (d : Int), vs = [.int d] ∧ ∀ (o : Option Int) (H' : Hp), Same H H' → okEnd o → Q (intV o) H'
theorem end_at (d : Int) : ∃ o, atI [V.non, .int 0, .int (-1000), .int 1000, .int (-3), .int 5, .int 7, .non] (d % 8) = some (intV o) ∧ okEnd o := by
  have h : d % 8 = 0 ∨ d % 8 = 1 ∨ d % 8 = 2 ∨ d % 8 = 3 ∨ d % 8 = 4 ∨ d % 8 = 5 ∨ d % 8 = 6 ∨ d % 8 = 7 := by omega
  rcases h with h | h | h | h | h | h | h | h <;> rw [h]
  · exact ⟨none, rfl, trivial⟩
  · exact ⟨some 0, rfl, by decide, by decide⟩
  · exact ⟨some (-1000), rfl, by decide, by decide⟩
  · exact ⟨some 1000, rfl, by decide, by decide⟩
  · exact ⟨some (-3), rfl, by decide, by decide⟩
  · exact ⟨some 5, rfl, by decide, by decide⟩
  · exact ⟨some 7, rfl, by decide, by decide⟩
  · exact ⟨none, rfl, trivial⟩
theorem cost_at (x y z u d : Int) (hx : 1 ≤ x ∧ x ≤ 1000000) (hy : 1 ≤ y ∧ y ≤ 1000000) (hz : 1 ≤ z ∧ z ≤ 1000000) (hu : 1 ≤ u ∧ u ≤ 1000000) :
    ∃ c, atI [V.int x, .int y, .int z, .int u] (d % 4) = some (.int c) ∧ 1 ≤ c ∧ c ≤ 1000000 := by
  have h : d % 4 = 0 ∨ d % 4 = 1 ∨ d % 4 = 2 ∨ d % 4 = 3 := by omega
  rcases h with h | h | h | h <;> rw [h]
  · exact ⟨x, rfl, hx⟩
  · exact ⟨y, rfl, hy⟩
  · exact ⟨z, rfl, hz⟩
  · exact ⟨u, rfl, hu⟩
/-- valid arguments of a row -/
structure Args5 (b m a : Int) (f l : Option Int) : Prop where
  hb : 2 ≤ b ∧ b ≤ 36
  hm : 1 ≤ m ∧ m ≤ 1000000
  ha : 1 ≤ a ∧ a ≤ 1000000
  hf : okEnd f
  hl : okEnd l
  le : ∀ i j, f = some i → l = some j → i ≤ j
abbrev args5 (b m a : Int) (f l : Option Int) : List V := [.int b, .int m, .int a, intV f, intV l]
def sp_args (K : PySem.W.Frag) : Sp := fun vs H Q _ => ∃ (c : Addr) (ds : List Int), vs = [.ref c] ∧ SqL K H c (ds.map V.int) ∧ Digs ds 5 ∧
  ∀ (H' : Hp) (p : Addr) (b m a : Int) (f l : Option Int), Same H H' → H p = none → H' p = some (.lst (args5 b m a f l)) → Args5 b m a f l → Q (.ref p) H'
theorem kd_opt {K : PySem.W.Frag} {H : Hp} (o : Option Int) : Kd K H (intV o) o := by
  cases o with
  | none => exact .non
  | some i => exact .int i
theorem perm_two {i j : Int} {ns : List Int} (h : ns.Perm [i, j]) (s : ns.Pairwise (· ≤ ·)) : ∃ x y, ns = [x, y] ∧ x ≤ y ∧ (x = i ∨ x = j) ∧ (y = i ∨ y = j) := by
  have hl := h.length_eq
  match ns, hl with
  | [x, y], _ =>
    have hx : x ∈ [i, j] := h.mem_iff.mp (by simp)
    have hy : y ∈ [i, j] := h.mem_iff.mp (by simp)
    simp only [List.mem_cons, List.not_mem_nil, or_false] at hx hy
    have hxy : x ≤ y := (List.pairwise_cons.mp s).1 y (by simp)
    exact ⟨x, y, rfl, hxy, hx, hy⟩

theorem ok_law_end {P : Program} {w : World} {K : PySem.W.Frag} {mg : Str → Option Value} {base : Heap} (T : Tx K mg) : FnOk P w K mg base CX0 1 T.f_law_end T.fd_law_end ["_law_digit"] sp_lend := by
  refine (T.law_end.F.ok sc_law_end (fun vs H Q E h => ?_) (fun cdv A outer s H vs Q E hr h => ?_))
  · obtain ⟨d, rfl, k⟩ := h
    rfl
  · obtain ⟨d, rfl, k⟩ := h
    have hu := hu_of hr
    refine ⟨_, (pss_one (ps_ret (pe_ix ix_list (pe_lst (pa_cons pe_non (pa_cons pe_int (pa_cons (pe_un un_neg pe_int) (pa_cons pe_int (pa_cons (pe_un un_neg pe_int) (pa_cons pe_int (pa_cons pe_int (pa_cons pe_non pa_nil))))))))) (pe_op op_mod (pv 0) pe_int) (fun _ _ => rfl)))), ?_⟩
    obtain ⟨o, at1, ho⟩ := end_at d
    refine ⟨_, rfl, _, rfl, (by show 8 ≤ sizeLine; decide), fun p hp => ?_⟩
    exact ⟨_, rfl, _, _, rfl, rfl, (by show (0 : Int) < 8; decide), p, _, _, _, rfl, rfl, SqL.of upd_same, at1, k o _ (same_new (Same.refl _) hp) ho⟩

theorem ok_law_arguments {P : Program} {w : World} {K : PySem.W.Frag} {mg : Str → Option Value} {base : Heap} (T : Tx K mg) : FnOk P w K mg base CX0 2 T.f_law_arguments T.fd_law_arguments ["_law_digits"] (sp_args K) := by
  have G_law_end := ok_law_end (P := P) (w := w) (base := base) T
  refine (T.law_arguments.F.ok sc_law_arguments (fun vs H Q E h => ?_) (fun cdv A outer s H vs Q E hr h => ?_))
  · obtain ⟨c, ds, rfl, hC, hD, k⟩ := h
    rfl
  · obtain ⟨c, ds, rfl, hC, hD, k⟩ := h
    have hu := hu_of hr
    refine ⟨_, (pss_cons (ps_set (i := 1) sc_law_arguments.nd rfl (Or.inl rfl) (pe_lst (pa_cons (pe_call G_law_end (hr.mono (by decide)) rfl T.law_end.g T.law_end.F.kp T.law_end.b .nil pass0 (pa_cons (pe_ix ix_list (pv 0) pe_int (fun _ _ => rfl)) pa_nil)) (pa_cons (pe_call G_law_end (hr.mono (by decide)) rfl T.law_end.g T.law_end.F.kp T.law_end.b .nil pass0 (pa_cons (pe_ix ix_list (pv 0) pe_int (fun _ _ => rfl)) pa_nil)) pa_nil))))
        (pss_cons (ps_if (pt_cmpR op_notIn_seq pe_non (pv 1) rfl) (pss_one (ps_set (i := 1) sc_law_arguments.nd rfl (Or.inl rfl) (pe_callB cr_sorted (by rfl) T.b_sorted (by decide +kernel) (pa_cons (pv 1) pa_nil)))) pss_nil)
        (pss_cons (ps_set (i := 2) sc_law_arguments.nd rfl (Or.inl rfl) (pe_lst (pa_cons (pe_ix ix_list (pe_lst (pa_cons pe_int (pa_cons pe_int (pa_cons pe_int (pa_cons pe_int pa_nil))))) (pe_op op_mod (pe_ix ix_list (pv 0) pe_int (fun _ _ => rfl)) pe_int) (fun _ _ => rfl)) (pa_cons (pe_ix ix_list (pe_lst (pa_cons pe_int (pa_cons pe_int (pa_cons pe_int (pa_cons pe_int pa_nil))))) (pe_op op_mod (pe_ix ix_list (pv 0) pe_int (fun _ _ => rfl)) pe_int) (fun _ _ => rfl)) pa_nil))))
        (pss_one (ps_ret (pe_op op_cat (pe_op op_cat (pe_lst (pa_cons (pe_op op_add pe_int (pe_op op_mod (pe_ix ix_list (pv 0) pe_int (fun _ _ => rfl)) pe_int)) pa_nil)) (pv 2)) (pv 1))))))), ?_⟩
    obtain ⟨d0, at0, l0, u0⟩ := digs_at hD 0 (by decide)
    obtain ⟨d1, at1, l1, u1⟩ := digs_at hD 1 (by decide)
    obtain ⟨d2, at2, l2, u2⟩ := digs_at hD 2 (by decide)
    obtain ⟨d3, at3, l3, u3⟩ := digs_at hD 3 (by decide)
    obtain ⟨d4, at4, l4, u4⟩ := digs_at hD 4 (by decide)
    obtain ⟨m, atm, m1⟩ := cost_at 1 2 7 1000000 d1 (by decide) (by decide) (by decide) (by decide)
    obtain ⟨a, ata, a1⟩ := cost_at 1 3 50 1000000 d2 (by decide) (by decide) (by decide) (by decide)
    refine ⟨_, rfl, c, _, _, _, rfl, rfl, hC, at3, d3, rfl, fun f H1 s1 hf => ?_⟩
    refine ⟨_, rfl, c, _, _, _, rfl, rfl, s1.seq hC, at4, d4, rfl, fun l H2 s2 hl => ?_⟩
    refine ⟨(by show 2 ≤ sizeLine; decide), fun q hq => ?_⟩
    have t1 := same_new (o := .lst [intV f, intV l]) (Same.refl _) hq
    have c1 := s1.trans (s2.trans t1)
    have flat : [intV f, intV l].all flatV = true := by cases f <;> cases l <;> rfl
    refine ⟨_, rfl, q, _, rfl, .inl (SqL.of upd_same), rfl, flat, _, rfl, ?_⟩
    -- behind the if: some list of both ends
    have fin : ∀ (H3 : Hp) (r : Addr) (f l : Option Int) (v : V), v = .ref r → Same H H3 → H r = none → H3 r = some (.lst [intV f, intV l]) → okEnd f → okEnd l → (∀ i j, f = some i → l = some j → i ≤ j) →
        (tSeq (tAsg (tLst (tCons (tOp (rIxL K) (tLst (tCons (tC (.int 1)) (tCons (tC (.int 2)) (tCons (tC (.int 7)) (tCons (tC (.int 1000000)) tNil))))) (tOp (rI (fun _ j => 0 < j) fun i j => .int (i % j)) (tOp (rIxL K) (tVar 0) (tC (.int 1))) (tC (.int 4)))) (tCons (tOp (rIxL K) (tLst (tCons (tC (.int 1)) (tCons (tC (.int 3)) (tCons (tC (.int 50)) (tCons (tC (.int 1000000)) tNil))))) (tOp (rI (fun _ j => 0 < j) fun i j => .int (i % j)) (tOp (rIxL K) (tVar 0) (tC (.int 2))) (tC (.int 4)))) tNil))) (gName 2)) (tRet (tOp rCat (tOp rCat (tLst (tCons (tOp (rI0 fun i j => .int (i + j)) (tC (.int 2)) (tOp (rI (fun _ j => 0 < j) fun i j => .int (i % j)) (tOp (rIxL K) (tVar 0) (tC (.int 0))) (tC (.int 35)))) tNil)) (tVar 2)) (tVar 1)))) { nx := fun _ H' => Q .non H', rt := Q } [some (.ref c), some v, none] H3 := by
      rintro H3 r f l v rfl s3 hr hr3 hf hl hle
      have hC3 := s3.seq hC
      refine ⟨(by show 4 ≤ sizeLine; decide), fun p1 hp1 => ?_⟩
      have u1 := same_new (o := .lst [V.int 1, .int 2, .int 7, .int 1000000]) (Same.refl _) hp1
      refine ⟨_, rfl, c, _, _, _, rfl, rfl, u1.seq hC3, at1, _, _, rfl, rfl, (by show (0 : Int) < 4; decide), p1, _, _, _, rfl, rfl, SqL.of upd_same, atm, ?_⟩
      refine ⟨(by show 4 ≤ sizeLine; decide), fun p2 hp2 => ?_⟩
      have u2 := same_new (o := .lst [V.int 1, .int 3, .int 50, .int 1000000]) (Same.refl _) hp2
      refine ⟨_, rfl, c, _, _, _, rfl, rfl, (u1.trans u2).seq hC3, at2, _, _, rfl, rfl, (by show (0 : Int) < 4; decide), p2, _, _, _, rfl, rfl, SqL.of upd_same, ata, ?_⟩
      refine ⟨(by show 2 ≤ sizeLine; decide), fun p3 hp3 => ?_⟩
      have u3 := same_new (o := .lst [V.int m, .int a]) (Same.refl _) hp3
      have u13 := u1.trans (u2.trans u3)
      refine ⟨_, rfl, c, _, _, _, rfl, rfl, u13.seq hC3, at0, _, _, rfl, rfl, (by show (0 : Int) < 35; decide), _, _, rfl, rfl, (by show 1 ≤ sizeLine; decide), fun p4 hp4 => ?_⟩
      have u4 := same_new (o := .lst [V.int (2 + d0 % 35)]) (Same.refl _) hp4
      refine ⟨_, rfl, p4, p3, _, _, rfl, rfl, upd_same, u4 p3 _ upd_same, (by show 3 ≤ sizeLine; decide), fun p5 hp5 => ?_⟩
      have u5 := same_new (o := .lst [V.int (2 + d0 % 35), .int m, .int a]) (Same.refl _) hp5
      have u15 := u13.trans (u4.trans u5)
      refine ⟨_, rfl, p5, r, _, _, rfl, rfl, upd_same, u15 r _ hr3, (by show 5 ≤ sizeLine; decide), fun p6 hp6 => ?_⟩
      have u6 := same_new (o := .lst (args5 (2 + d0 % 35) m a f l)) (Same.refl _) hp6
      have all := s3.trans (u15.trans u6)
      exact k _ p6 (2 + d0 % 35) m a f l all ((s3.trans u15).free hp6) upd_same ⟨by omega, m1, a1, hf, hl, hle⟩
    cases f with
    | none =>
      refine iteF ?_
      exact fin _ q none l _ rfl c1 ((s1.trans s2).free hq) upd_same hf hl (fun i j z => nomatch z)
    | some i =>
      cases l with
      | none =>
        refine iteF ?_
        exact fin _ q (some i) none _ rfl c1 ((s1.trans s2).free hq) upd_same hf hl (fun i j _ z => nomatch z)
      | some j =>
        refine iteT ?_
        refine ⟨_, rfl, q, [i, j], rfl, SqL.of upd_same, by show 2 < 64; decide, fun ns p hperm hpw hp => ?_⟩
        obtain ⟨x, y, rfl, hxy, hx, hy⟩ := perm_two hperm hpw
        have t2 := same_new (o := .lst [V.int x, .int y]) (Same.refl _) hp
        have okx : okEnd (some x) := by rcases hx with rfl | rfl <;> assumption
        have oky : okEnd (some y) := by rcases hy with rfl | rfl <;> assumption
        exact fin _ p (some x) (some y) _ rfl (c1.trans t2) (c1.free hp) upd_same okx oky (fun i j e1 e2 => by cases e1; cases e2; exact hxy)

end K01

namespace K01
open PySem L2 GL

/-- what is made of five arguments: a row, or InvalidRow -/
def Made (K : PySem.W.Frag) (C CE : Addr) (H : Hp) (Q : VK) (E : XK) (vb vm va vf vl : V) (b m a f l : Option Int) : Prop :=
  (∀ x, badField b m a f l vf vl = some x → ∀ (H' : Hp) (d : Addr), Same H H' → H d = none → H' d = some (.xd [("field", .str x)]) → E (.ref CE) (some d) H') ∧
  (badField b m a f l vf vl = none → ∀ (H' : Hp) (p : Addr), Same H H' → H p = none → RowAt K C H' p [vb, vm, va, vf, vl] → Q (.ref p) H')
def sp_made (K : PySem.W.Frag) (C CE : Addr) : Sp := fun vs H Q E => ∃ c vb vm va vf vl b m a f l, vs = [.ref c] ∧ SqL K H c [vb, vm, va, vf, vl] ∧
  Kd K H vb b ∧ Kd K H vm m ∧ Kd K H va a ∧ Kd K H vf f ∧ Kd K H vl l ∧ Made K C CE H Q E vb vm va vf vl b m a f l
theorem kd_same {K : PySem.W.Frag} {H H' : Hp} (e : Same H H') {v : V} {o : Option Int} (h : Kd K H v o) : Kd K H' v o := by
  cases h with
  | non => exact .non
  | bl b => exact .bl b
  | int i => exact .int i
  | str x => exact .str x
  | lst h => exact .lst (e.seq h)
  | tup h => exact .tup (sqT_same e h)
  | dic h => exact .dic (e _ _ h)
theorem kw4 {K : PySem.W.Frag} {mg : Str → Option Value} (T : Tx K mg) : ∃ mv : List Value, KBn K T.fd_Row_init ["self", "base", "move", "add", "first", "last"] 2 ["move", "add", "first", "last"] (fun us ws => us ++ ws) (fun vs zs => vs ++ zs) :=
  T.F_Row_init.kbinds0 2 ["move", "add", "first", "last"] [] (fun us _ ws => us ++ ws) (by decide) (fun q h => nomatch h) (fun r1 _ r3 => r1.append r3)
    fun D doc pm an cdv ct us mv ws h1 h2 h3 => match us, mv, ws, h1, h2, h3 with
      | [_, _], [], [_, _, _, _], _, _, _ => rfl
theorem pass_no {P : Program} {w : World} {X : Cx} : Passes (L2.CX P w) X (fun _ _ _ => False) := by
  rintro pins σ H s e s' I ⟨a, B, H', cls, d, h1, h2, h3, h4, h5, h6, h7, h⟩
  exact h.elim

theorem ok_law_made {P : Program} {w : World} {K : PySem.W.Frag} {mg : Str → Option Value} {base : Heap} (T : Tx K mg) : FnOk P w K mg base (L2.CX P w) 8 T.f_law_made T.fd_law_made ["_law_some"] (sp_made K T.C_Row T.C_InvalidRow) := by
  have G_Row_init := ok_Row_init (P := P) (w := w) (base := base) T
  obtain ⟨mv, KB⟩ := kw4 T
  refine (T.law_made.F.okX sc_law_made (fun vs H Q E h => ?_) (fun cdv A outer s H vs Q E hr h => ?_))
  · obtain ⟨c, vb, vm, va, vf, vl, b, m, a, f, l, rfl, hS, kb, km, ka, kf, kl, kE, kQ⟩ := h
    rfl
  · obtain ⟨c, vb, vm, va, vf, vl, b, m, a, f, l, rfl, hS, kb, km, ka, kf, kl, kE, kQ⟩ := h
    have hu := hu_of hr
    refine ⟨_, (pss_one (ps_ret (pe_makeK T.mkR G_Row_init (hr.mono (by decide)) rfl T.g_Row KB (passes_call (takes_of rfl rfl rfl rfl) (fun _ _ _ _ h => h)) (pa_cons (pe_ix ix_list (pv 0) pe_int (fun _ _ => rfl)) pa_nil)
        (pk_cons (pe_ix ix_list (pv 0) pe_int (fun _ _ => rfl)) (pk_cons (pe_ix ix_list (pv 0) pe_int (fun _ _ => rfl)) (pk_cons (pe_ix ix_list (pv 0) pe_int (fun _ _ => rfl)) (pk_cons (pe_ix ix_list (pv 0) pe_int (fun _ _ => rfl)) pk_nil))))))), ?_⟩
    have ix : ∀ (i : Int) (x : V), atI [vb, vm, va, vf, vl] i = some x → True := fun _ _ _ => trivial
    refine ⟨_, rfl, c, _, _, _, rfl, rfl, hS, rfl, _, rfl, c, _, _, _, rfl, rfl, hS, rfl, _, rfl, c, _, _, _, rfl, rfl, hS, rfl, _, rfl, c, _, _, _, rfl, rfl, hS, rfl, _, rfl, c, _, _, _, rfl, rfl, hS, rfl, rfl, rfl, fun p dx hp hdx ne => ?_⟩
    have s1 := same_new (o := .own p) (Same.refl _) hdx
    have hp1 : (upd H dx (.own p)) p = none := by rw [upd_ne ne.symm]; exact hp
    have s2 := same_new (o := .ins T.C_Row dx []) (Same.refl _) hp1
    have s12 := s1.trans s2
    refine ⟨p, dx, vb, vm, va, vf, vl, b, m, a, f, l, rfl, upd_same, kd_same s12 kb, kd_same s12 km, kd_same s12 ka, kd_same s12 kf, kd_same s12 kl, fun x hx H' d sm hd h => ?_, fun hx H' sm h => ?_⟩
    · exact kE x hx H' d (s12.trans sm) (s12.free hd) h
    · refine ⟨rfl, kQ hx H' p (fun c o e => ?_) hp h⟩
      exact sm c o (ne_of_none e hp) (s12 c o e)


/-- _law_error -/
def sp_err (K : PySem.W.Frag) : Sp := fun vs H Q _ => ∃ c vb vm va vf vl b m a f l, vs = [.ref c] ∧ SqL K H c [vb, vm, va, vf, vl] ∧
  Kd K H vb b ∧ Kd K H vm m ∧ Kd K H va a ∧ Kd K H vf f ∧ Kd K H vl l ∧
  (∀ x, badField b m a f l vf vl = some x → ∀ (H' : Hp) (p : Addr), Same H H' → H' p = some (.lst [.str x, .bl true, .bl false]) → Q (.ref p) H') ∧
  (badField b m a f l vf vl = none → ∀ H', Same H H' → Q .non H')

theorem ok_law_error {P : Program} {w : World} {K : PySem.W.Frag} {mg : Str → Option Value} {base : Heap} (T : Tx K mg) : FnOk P w K mg base CX0 9 T.f_law_error T.fd_law_error ["_law_some"] (sp_err K) := by
  have G_law_made := ok_law_made (P := P) (w := w) (base := base) T
  refine (T.law_error.F.ok sc_law_error (fun vs H Q E h => ?_) (fun cdv A outer s H vs Q E hr h => ?_))
  · obtain ⟨c, vb, vm, va, vf, vl, b, m, a, f, l, rfl, hS, kb, km, ka, kf, kl, kE, kN⟩ := h
    rfl
  · obtain ⟨c, vb, vm, va, vf, vl, b, m, a, f, l, rfl, hS, kb, km, ka, kf, kl, kE, kN⟩ := h
    have hu := hu_of hr
    refine ⟨_, (pss_cons (ps_set (i := 1) sc_law_error.nd rfl (Or.inl rfl) pe_non)
        (pss_cons (ps_try_as (i := 2) (tb := fun W => tDrop (tCallS (sp_made K T.C_Row T.C_InvalidRow) (WE W) (tCons (tVar 0) tNil))) (Wout := fun _ _ _ _ => False) rfl rfl sc_law_error.nd rfl rfl ⟨rfl, by decide, Or.inl T.InvalidRow.gC⟩ takes0
            (fun W pn xe tk _ => pss_one (ps_expr (by exact (pe_callS G_law_made (hr.mono (by decide)) rfl T.law_made.g T.law_made.F.kp T.law_made.b (fun σ => passAt tk σ) (by exact (pa_cons (pv 0) pa_nil))))))
            (fun a oe cls d pn hz hf => pss_one (ps_set (i := 1) sc_law_error.nd rfl (Or.inl rfl) (pe_lst (pa_cons (pe_errFld T.InvalidRow hz hf (pv 2))
              (pa_cons (pe_callB (call_errIs T.InvalidRow hz hf) (by rfl) T.b_isinstance (by decide +kernel) (pa_cons (pv 2) (pa_cons (pe_glob (v := .ref T.C_HeadError) rfl T.h_HeadError rfl) pa_nil)))
              (pa_cons (pe_callB (call_errIs T.InvalidRow hz hf) (by rfl) T.b_isinstance (by decide +kernel) (pa_cons (pv 2) (pa_cons (pe_glob (v := .ref T.C_InvalidNumber) rfl T.h_InvalidNumber rfl) pa_nil))) pa_nil)))))))
        (pss_one (ps_ret (pv 1))))), ?_⟩
    refine ⟨_, rfl, c, vb, vm, va, vf, vl, b, m, a, f, l, rfl, hS, kb, km, ka, kf, kl, fun x hx H1 d s1 hd h1 => ?_, fun hx H1 p s1 hp h1 => ?_⟩
    · refine ⟨true, T.InvalidRow.te, fun _ a0 _ => ?_, fun q => Bool.noConfusion q⟩
      refine ⟨_, rfl, rfl, rfl, d, _, rfl, h1, ?_⟩
      refine ⟨_, rfl, _, _, true, d, _, _, rfl, rfl, rfl, h1, .own _, T.x_isHead, ?_⟩
      refine ⟨_, rfl, _, _, false, d, _, _, rfl, rfl, rfl, h1, .own _, T.x_isNum, ?_⟩
      refine ⟨(by show 3 ≤ sizeLine; decide), fun q hq => ?_⟩
      exact ⟨_, rfl, kE x hx _ q (same_new s1 (s1.free hq)) upd_same⟩
    · exact ⟨_, rfl, kN hx _ s1⟩


/-- _law_has -/
def sp_lhas (K : PySem.W.Frag) : Sp := fun vs H Q _ => ∃ c b m a f l v o, vs = [.ref c, v] ∧ SqL K H c (args5 b m a f l) ∧ Kd K H v o ∧ Q (.bl (hasP f l o)) H

theorem ok_law_has {P : Program} {w : World} {K : PySem.W.Frag} {mg : Str → Option Value} {base : Heap} (T : Tx K mg) : FnOk P w K mg base CX0 1 T.f_law_has T.fd_law_has ["_law_some", "_law_value"] (sp_lhas K) := by
  refine (T.law_has.F.ok sc_law_has (fun vs H Q E h => ?_) (fun cdv A outer s H vs Q E hr h => ?_))
  · obtain ⟨c, b, m, a, f, l, v, o, rfl, hS, kv, k⟩ := h
    rfl
  · obtain ⟨c, b, m, a, f, l, v, o, rfl, hS, kv, k⟩ := h
    have hu := hu_of hr
    refine ⟨_, (pss_cons (ps_if (PW.pt (pw_or (pt_not (pt_val (pe_callB call_isi (by rfl) T.b_isinstance (by decide +kernel) (pa_cons (pv 1) (pa_cons (pe_bltn (v := .ty "int") (by rfl) T.b_int (by decide +kernel) rfl) pa_nil))))) (pw_or (pt_val (pe_callB call_isi (by rfl) T.b_isinstance (by decide +kernel) (pa_cons (pv 1) (pa_cons (pe_bltn (v := .ty "bool") (by rfl) T.b_bool (by decide +kernel) rfl) pa_nil)))) (pw_or1 (pt_not (pt_chain op_le op_le (pe_un un_neg pe_int) (pv 1) pe_int)))))) (pss_one (ps_ret pe_bl)) pss_nil)
        (pss_one (ps_ret (pe_and (pe_or (pe_cmpR op_isN (pe_ix ix_list (pv 0) pe_int (fun _ _ => rfl)) pe_non (nomark _)) (pe_one (pe_cmpR op_le (pe_ix ix_list (pv 0) pe_int (fun _ _ => rfl)) (pv 1) (nomark _)))) (pe_one (pe_or (pe_cmpR op_isN (pe_ix ix_list (pv 0) pe_int (fun _ _ => rfl)) pe_non (nomark _)) (pe_one (pe_cmpR op_le (pv 1) (pe_ix ix_list (pv 0) pe_int (fun _ _ => rfl)) (nomark _))))))))), ?_⟩
    obtain ⟨t, b1, b2, ty, e1, e2, e3⟩ := kv.ask
    refine ⟨_, rfl, _, _, _, _, b1, rfl, .ty _, ty, kit_ty e1, _, rfl, ?_⟩
    cases b1 with
    | false =>
      refine iteT ?_
      refine iteT ?_
      cases o with
      | none => exact k
      | some i => cases e3
    | true =>
      refine iteF ?_
      refine ⟨_, rfl, _, _, _, _, b2, rfl, .ty _, ty, kit_ty e2, _, rfl, ?_⟩
      cases b2 with
      | true =>
        refine iteT ?_
        refine iteT ?_
        cases o with
        | none => exact k
        | some i => cases e3
      | false =>
        refine iteF ?_
        cases o with
        | none => cases e3
        | some i =>
          have e := kv.int_of
          subst e
          refine ⟨_, rfl, _, rfl, _, _, rfl, rfl, _, rfl, ?_⟩
          have out : ¬ (-1000 ≤ i ∧ i ≤ 1000) → Q (.bl false) H := fun h => by simpa [hasP, h] using k
          by_cases h1 : (-1000 : Int) ≤ i
          · refine ifD h1 ?_
            refine ⟨_, _, rfl, rfl, _, rfl, ?_⟩
            by_cases h2 : i ≤ 1000
            · rw [decide_eq_true h2]
              refine iteF ?_
              simp only [hasP, h1, h2, and_self, decide_true, Bool.true_and] at k
              have last : loOk i f = true → (tOrV (tOp (fun x y H Q => y = .non ∧ Q (.bl (decide (x = .non))) H) (tOp (rIxL K) (tVar 0) (tC (.int 4))) (tC .non)) (tOp (rI0 fun i j => .bl (decide (i ≤ j))) (tVar 1) (tOp (rIxL K) (tVar 0) (tC (.int 4))))) [some (.ref c), some (.int i)] H Q := by
                intro hf
                rw [hf, Bool.true_and] at k
                refine ⟨_, rfl, c, _, _, _, rfl, rfl, hS, rfl, rfl, _, rfl, ?_⟩
                cases l with
                | none => exact iteT k
                | some j => exact iteF ⟨_, rfl, _, rfl, c, _, _, _, rfl, rfl, hS, rfl, _, _, rfl, rfl, k⟩
              refine ⟨_, rfl, c, _, _, _, rfl, rfl, hS, rfl, rfl, _, rfl, ?_⟩
              cases f with
              | none =>
                refine iteT ?_
                exact ⟨_, rfl, iteT (last rfl)⟩
              | some z =>
                refine iteF ?_
                refine ⟨_, rfl, c, _, _, _, rfl, rfl, hS, rfl, _, rfl, _, _, rfl, rfl, _, rfl, ?_⟩
                by_cases hz : z ≤ i
                · exact ifD hz (last (decide_eq_true hz))
                · refine ifDn hz ?_
                  have k' : Q (V.bl false) H := by simpa [loOk, hz] using k
                  exact k'
            · rw [decide_eq_false h2]
              refine iteT ?_
              exact out fun z => h2 z.2
          · refine ifDn h1 ?_
            refine ⟨_, rfl, ?_⟩
            refine iteT ?_
            exact out fun z => h1 z.1

end K01

namespace K01
open PySem L2 GL

def optD : Option Int → PyData
  | none => .none
  | some i => .int i
abbrev dargs (b m a : Int) (f l : Option Int) : List PyData := [.int b, .int m, .int a, optD f, optD l]
theorem opt_dp {K : PySem.W.Frag} {H : Hp} (o : Option Int) : Dp K H (intV o) (optD o) := by
  cases o with
  | none => exact .non
  | some i => exact .int i
theorem args_dp {K : PySem.W.Frag} {H : Hp} (b m a : Int) (f l : Option Int) : DpAll K H (args5 b m a f l) (dargs b m a f l) :=
  .cons (.int _) (.cons (.int _) (.cons (.int _) (.cons (opt_dp f) (.cons (opt_dp l) .nil))))
theorem shaped_tup (b m a : Int) (f l : Option Int) : SeqAt.shaped (.tuple (dargs b m a f l)) = true := by cases f <;> cases l <;> rfl
theorem shaped_lst (b m a : Int) (f l : Option Int) : SeqAt.shaped (.list (dargs b m a f l)) = true := by cases f <;> cases l <;> rfl
/-- the arguments are equal -/
def eq5 (b m a : Int) (f l : Option Int) (b' m' a' : Int) (f' l' : Option Int) : Bool := PyData.eqvAll (dargs b m a f l) (dargs b' m' a' f' l')
theorem eqv_tup (b m a : Int) (f l : Option Int) (b' m' a' : Int) (f' l' : Option Int) : PyData.eqv (.tuple (dargs b m a f l)) (.tuple (dargs b' m' a' f' l')) = eq5 b m a f l b' m' a' f' l' := by
  unfold eq5
  rw [PyData.eqv]
theorem eqv_lst (b m a : Int) (f l : Option Int) (b' m' a' : Int) (f' l' : Option Int) : PyData.eqv (.list (dargs b m a f l)) (.list (dargs b' m' a' f' l')) = eq5 b m a f l b' m' a' f' l' := by
  unfold eq5
  rw [PyData.eqv]
theorem optD_eqv (x y : Option Int) : PyData.eqv (optD x) (optD y) = decide (x = y) := by
  cases x with
  | none => cases y <;> simp [optD, PyData.eqv]
  | some i =>
    cases y with
    | none => simp [optD, PyData.eqv]
    | some j =>
      simp only [optD, PyData.eqv, Option.some.injEq]
      by_cases h : i = j <;> simp [h]
theorem eq5_eq (b m a : Int) (f l : Option Int) (b' m' a' : Int) (f' l' : Option Int) : eq5 b m a f l b' m' a' f' l' = decide (b = b' ∧ m = m' ∧ a = a' ∧ f = f' ∧ l = l') := by
  have e : ∀ i j : Int, PyData.eqv (.int i) (.int j) = decide (i = j) := fun i j => by
    simp only [PyData.eqv]
    by_cases h : i = j <;> simp [h]
  unfold eq5 dargs
  simp only [PyData.eqvAll, e, optD_eqv, Bool.and_true]
  by_cases h1 : b = b' <;> by_cases h2 : m = m' <;> by_cases h3 : a = a' <;> by_cases h4 : f = f' <;> by_cases h5 : l = l' <;> simp [h1, h2, h3, h4, h5]
/-- row == other -/
def sp_eq (K : PySem.W.Frag) (C : Addr) : Sp := fun vs H Q _ => ∃ p b m a f l y, vs = [.ref p, y] ∧ RowAt K C H p (args5 b m a f l) ∧
  ((∃ q b' m' a' f' l', y = .ref q ∧ RowAt K C H q (args5 b' m' a' f' l') ∧ Q (.bl (eq5 b m a f l b' m' a' f' l')) H) ∨ (∃ q zs, y = .ref q ∧ SqL K H q zs ∧ Q (.bl false) H))

theorem ok_Row_eq {P : Program} {w : World} {K : PySem.W.Frag} {mg : Str → Option Value} {base : Heap} (T : Tx K mg) : FnOk P w K mg base CX0 1 T.f_Row_eq T.fd_Row_eq ["self", "other"] (sp_eq K T.C_Row) := by
  refine (T.F_Row_eq.ok sc_Row_eq (fun vs H Q E h => ?_) (fun cdv A outer s H vs Q E hr h => ?_))
  · obtain ⟨p, b, m, a, f, l, y, rfl, hR, hy⟩ := h
    rfl
  · obtain ⟨p, b, m, a, f, l, y, rfl, hR, hy⟩ := h
    have hu := hu_of hr
    have hu64 := hr.units
    refine ⟨_, (pss_one (ps_ret (pe_and (pe_callB call_isi (by rfl) T.b_isinstance (by decide +kernel) (pa_cons (pv 1) (pa_cons (pe_glob (v := .ref T.C_Row) rfl T.g_Row rfl) pa_nil))) (pe_one (pe_cmpR (op_eqD hu64) (pe_fld (pv 0) rfl) (pe_fld (pv 1) rfl) (nomark _)))))), ?_⟩
    have hu64 := hr.units
    rcases hy with ⟨q, b', m', a', f', l', rfl, hR', k⟩ | ⟨q, zs, rfl, hq, k⟩
    · obtain ⟨dx, t, h1, h2⟩ := hR.ob
      obtain ⟨dx', t', h1', h2'⟩ := hR'.ob
      refine ⟨_, rfl, _, _, _, _, true, rfl, .own _, T.ty h1', T.x_rowRow, _, rfl, ?_⟩
      refine iteT ?_
      refine ⟨_, rfl, p, T.C_Row, dx, _, _, rfl, h1, T.cl, T.nS, settings_look t, _, rfl, q, T.C_Row, dx', _, _, rfl, h1', T.cl, T.nS, settings_look t', ?_⟩
      refine ⟨_, _, .tup (SqT.of h2) (args_dp _ _ _ _ _), .tup (SqT.of h2') (args_dp _ _ _ _ _), shaped_tup _ _ _ _ _, shaped_tup _ _ _ _ _, ?_⟩
      rw [eqv_tup]
      exact k
    · refine ⟨_, rfl, _, _, _, _, false, rfl, .own _, tyx_lst hq, T.x_listRow, _, rfl, ?_⟩
      exact iteF k


/-- what is no valid argument at place j -/
def BadAt (j : Int) (v : V) (o : Option Int) : Prop := (j = 0 → within o 2 36 = false) ∧ (j = 1 ∨ j = 2 → within o 1 1000000 = false) ∧ (j = 3 ∨ j = 4 → endOk v o = false)
def sp_odd (K : PySem.W.Frag) : Sp := fun vs H Q _ => ∃ (c : Addr) (ds : List Int) (j : Int), vs = [.ref c, .int j] ∧ SqL K H c (ds.map V.int) ∧ Digs ds 1 ∧ 0 ≤ j ∧ j < 5 ∧
  ∀ (H' : Hp) (v : V) (o : Option Int), Same H H' → Kd K H' v o → BadAt j v o → Q v H'

theorem base_odd {K : PySem.W.Frag} {H : Hp} {p1 : Addr} {xs : List V} (h1 : SqT K H p1 xs) (d : Int) : ∃ v o, atI [V.int 1, .int 37, .int 0, .int (-2), .non, .bl true, .str "10", .int (10 ^ (20 : Int).toNat), .ref p1] (d % 9) = some v ∧ Kd K H v o ∧ within o 2 36 = false := by
  have h : d % 9 = 0 ∨ d % 9 = 1 ∨ d % 9 = 2 ∨ d % 9 = 3 ∨ d % 9 = 4 ∨ d % 9 = 5 ∨ d % 9 = 6 ∨ d % 9 = 7 ∨ d % 9 = 8 := by omega
  rcases h with h | h | h | h | h | h | h | h | h <;> rw [h]
  · exact ⟨_, _, rfl, .int _, by decide⟩
  · exact ⟨_, _, rfl, .int _, by decide⟩
  · exact ⟨_, _, rfl, .int _, by decide⟩
  · exact ⟨_, _, rfl, .int _, by decide⟩
  · exact ⟨_, _, rfl, .non, by decide⟩
  · exact ⟨_, _, rfl, .bl _, by decide⟩
  · exact ⟨_, _, rfl, .str _, by decide⟩
  · exact ⟨_, _, rfl, .int _, by decide⟩
  · exact ⟨_, _, rfl, .tup h1, by decide⟩

theorem cost_odd {K : PySem.W.Frag} {H : Hp} {p3 p4 : Addr} {xs ys : List V} (h1 : SqL K H p3 xs) (h2 : SqT K H p4 ys) (d : Int) : ∃ v o, atI [V.int 0, .int (-1), .int 1000001, .non, .bl true, .str "1", .ref p3, .int (10 ^ (30 : Int).toNat), .ref p4] (d % 9) = some v ∧ Kd K H v o ∧ within o 1 1000000 = false := by
  have h : d % 9 = 0 ∨ d % 9 = 1 ∨ d % 9 = 2 ∨ d % 9 = 3 ∨ d % 9 = 4 ∨ d % 9 = 5 ∨ d % 9 = 6 ∨ d % 9 = 7 ∨ d % 9 = 8 := by omega
  rcases h with h | h | h | h | h | h | h | h | h <;> rw [h]
  · exact ⟨_, _, rfl, .int _, by decide⟩
  · exact ⟨_, _, rfl, .int _, by decide⟩
  · exact ⟨_, _, rfl, .int _, by decide⟩
  · exact ⟨_, _, rfl, .non, by decide⟩
  · exact ⟨_, _, rfl, .bl _, by decide⟩
  · exact ⟨_, _, rfl, .str _, by decide⟩
  · exact ⟨_, _, rfl, .lst h1, by decide⟩
  · exact ⟨_, _, rfl, .int _, by decide⟩
  · exact ⟨_, _, rfl, .tup h2, by decide⟩

theorem end_odd {K : PySem.W.Frag} {H : Hp} {p6 p7 p8 : Addr} {xs ys : List V} {kvs : List (Key × V)} (h1 : SqT K H p6 xs) (h2 : SqL K H p7 ys) (h3 : H p8 = some (.dK kvs)) (d : Int) : ∃ v o, atI [V.int (-1001), .int 1001, .bl true, .bl false, .str "0", .ref p6, .ref p7, .int (10 ^ (20 : Int).toNat), .ref p8] (d % 9) = some v ∧ Kd K H v o ∧ endOk v o = false := by
  have h : d % 9 = 0 ∨ d % 9 = 1 ∨ d % 9 = 2 ∨ d % 9 = 3 ∨ d % 9 = 4 ∨ d % 9 = 5 ∨ d % 9 = 6 ∨ d % 9 = 7 ∨ d % 9 = 8 := by omega
  rcases h with h | h | h | h | h | h | h | h | h <;> rw [h]
  · exact ⟨_, _, rfl, .int _, by simp [endOk, within]⟩
  · exact ⟨_, _, rfl, .int _, by simp [endOk, within]⟩
  · exact ⟨_, _, rfl, .bl _, by simp [endOk, within]⟩
  · exact ⟨_, _, rfl, .bl _, by simp [endOk, within]⟩
  · exact ⟨_, _, rfl, .str _, by simp [endOk, within]⟩
  · exact ⟨_, _, rfl, .tup h1, by simp [endOk, within]⟩
  · exact ⟨_, _, rfl, .lst h2, by simp [endOk, within]⟩
  · exact ⟨_, _, rfl, .int _, by simp [endOk, within]⟩
  · exact ⟨_, _, rfl, .dic h3, by simp [endOk, within]⟩

theorem ok_law_odd {P : Program} {w : World} {K : PySem.W.Frag} {mg : Str → Option Value} {base : Heap} (T : Tx K mg) : FnOk P w K mg base CX0 1 T.f_law_odd T.fd_law_odd ["_law_digits", "_law_at"] (sp_odd K) := by
  refine (T.law_odd.F.ok sc_law_odd (fun vs H Q E h => ?_) (fun cdv A outer s H vs Q E hr h => ?_))
  · obtain ⟨c, ds, j, rfl, hC, hD, j0, j5, k⟩ := h
    rfl
  · obtain ⟨c, ds, j, rfl, hC, hD, j0, j5, k⟩ := h
    have hu := hu_of hr
    refine ⟨_, (pss_cons (ps_set (i := 2) sc_law_odd.nd rfl (Or.inl rfl) (pe_lst (pa_cons pe_int (pa_cons pe_int (pa_cons pe_int (pa_cons (pe_un un_neg pe_int) (pa_cons pe_non (pa_cons pe_bl (pa_cons pe_str (pa_cons (pe_op op_pow pe_int pe_int) (pa_cons (pe_tup (pa_cons pe_int pa_nil)) pa_nil)))))))))))
        (pss_cons (ps_set (i := 3) sc_law_odd.nd rfl (Or.inl rfl) (pe_lst (pa_cons pe_int (pa_cons (pe_un un_neg pe_int) (pa_cons pe_int (pa_cons pe_non (pa_cons pe_bl (pa_cons pe_str (pa_cons (pe_lst (pa_cons pe_int pa_nil)) (pa_cons (pe_op op_pow pe_int pe_int) (pa_cons (pe_tup (pa_cons pe_int pa_nil)) pa_nil)))))))))))
        (pss_cons (ps_set (i := 4) sc_law_odd.nd rfl (Or.inl rfl) (pe_lst (pa_cons (pe_un un_neg pe_int) (pa_cons pe_int (pa_cons pe_bl (pa_cons pe_bl (pa_cons pe_str (pa_cons (pe_tup (pa_cons pe_int pa_nil)) (pa_cons (pe_lst pa_nil) (pa_cons (pe_op op_pow pe_int pe_int) (pa_cons pe_dnewK pa_nil)))))))))))
        (pss_one (ps_ret (pe_ix ix_list (pe_ix ix_list (pe_lst (pa_cons (pv 2) (pa_cons (pv 3) (pa_cons (pv 3) (pa_cons (pv 4) (pa_cons (pv 4) pa_nil)))))) (pv 1) (fun _ _ => rfl)) (pe_op op_mod (pe_ix ix_list (pv 0) pe_int (fun _ _ => rfl)) pe_int) (fun _ _ => rfl))))))), ?_⟩
    obtain ⟨d0, at0, l0, u0⟩ := digs_at hD 0 (by decide)
    refine ⟨_, rfl, _, _, rfl, rfl, ⟨by decide, by decide, by decide⟩, (by show 1 ≤ sizeLine; decide), fun p1 hp1 => ?_⟩
    have t1 := same_new (o := .tup [V.int 10]) (Same.refl _) hp1
    refine ⟨(by show 9 ≤ sizeLine; decide), fun p2 hp2 => ?_⟩
    have t2 := same_new (o := .lst [V.int 1, .int 37, .int 0, .int (-2), .non, .bl true, .str "10", .int (10 ^ (20 : Int).toNat), .ref p1]) (Same.refl _) hp2
    refine ⟨_, rfl, (by show 1 ≤ sizeLine; decide), fun p3 hp3 => ?_⟩
    have t3 := same_new (o := .lst [V.int 1]) (Same.refl _) hp3
    refine ⟨_, _, rfl, rfl, ⟨by decide, by decide, by decide⟩, (by show 1 ≤ sizeLine; decide), fun p4 hp4 => ?_⟩
    have t4 := same_new (o := .tup [V.int 1]) (Same.refl _) hp4
    refine ⟨(by show 9 ≤ sizeLine; decide), fun p5 hp5 => ?_⟩
    have t5 := same_new (o := .lst [V.int 0, .int (-1), .int 1000001, .non, .bl true, .str "1", .ref p3, .int (10 ^ (30 : Int).toNat), .ref p4]) (Same.refl _) hp5
    refine ⟨_, rfl, (by show 1 ≤ sizeLine; decide), fun p6 hp6 => ?_⟩
    have t6 := same_new (o := .tup [V.int 0]) (Same.refl _) hp6
    refine ⟨(by show 0 ≤ sizeLine; decide), fun p7 hp7 => ?_⟩
    have t7 := same_new (o := .lst []) (Same.refl _) hp7
    refine ⟨_, _, rfl, rfl, ⟨by decide, by decide, by decide⟩, ?_⟩
    intro p8 hp8
    have t8 := same_new (o := .dK []) (Same.refl _) hp8
    refine ⟨(by show 9 ≤ sizeLine; decide), fun p9 hp9 => ?_⟩
    have t9 := same_new (o := .lst [V.int (-1001), .int 1001, .bl true, .bl false, .str "0", .ref p6, .ref p7, .int (10 ^ (20 : Int).toNat), .ref p8]) (Same.refl _) hp9
    refine ⟨_, rfl, _, rfl, _, rfl, _, rfl, _, rfl, (by show 5 ≤ sizeLine; decide), fun p10 hp10 => ?_⟩
    have t10 := same_new (o := .lst [V.ref p2, .ref p5, .ref p5, .ref p9, .ref p9]) (Same.refl _) hp10
    have u9 := t10
    have u8 := t9.trans u9
    have u7 := t8.trans u8
    have u6 := t7.trans u7
    have u5 := t6.trans u6
    have u4 := t5.trans u5
    have u3 := t4.trans u4
    have u2 := t3.trans u3
    have u1 := t2.trans u2
    have all := t1.trans u1
    obtain ⟨v1, o1, a1, k1, b1⟩ := base_odd (K := K) (SqT.of (u1 p1 _ upd_same)) d0
    obtain ⟨v2, o2, a2, k2, b2⟩ := cost_odd (K := K) (SqL.of (u3 p3 _ upd_same)) (SqT.of (u4 p4 _ upd_same)) d0
    obtain ⟨v3, o3, a3, k3, b3⟩ := end_odd (K := K) (SqT.of (u6 p6 _ upd_same)) (SqL.of (u7 p7 _ upd_same)) (u8 p8 _ upd_same) d0
    have L2' := SqL.of (K := K) (u2 p2 _ upd_same)
    have L5 := SqL.of (K := K) (u5 p5 _ upd_same)
    have L9 := SqL.of (K := K) (u9 p9 _ upd_same)
    have five : j = 0 ∨ j = 1 ∨ j = 2 ∨ j = 3 ∨ j = 4 := by omega
    have SC := all.seq hC
    rcases five with rfl | rfl | rfl | rfl | rfl
    · exact ⟨_, rfl, p10, _, _, _, rfl, rfl, SqL.of upd_same, rfl, _, rfl, c, _, _, _, rfl, rfl, SC, at0, _, _, rfl, rfl, (by show (0 : Int) < 9; decide), p2, _, _, _, rfl, rfl, L2', a1, k _ v1 o1 all k1 ⟨fun _ => b1, fun z => by omega, fun z => by omega⟩⟩
    · exact ⟨_, rfl, p10, _, _, _, rfl, rfl, SqL.of upd_same, rfl, _, rfl, c, _, _, _, rfl, rfl, SC, at0, _, _, rfl, rfl, (by show (0 : Int) < 9; decide), p5, _, _, _, rfl, rfl, L5, a2, k _ v2 o2 all k2 ⟨fun z => by omega, fun _ => b2, fun z => by omega⟩⟩
    · exact ⟨_, rfl, p10, _, _, _, rfl, rfl, SqL.of upd_same, rfl, _, rfl, c, _, _, _, rfl, rfl, SC, at0, _, _, rfl, rfl, (by show (0 : Int) < 9; decide), p5, _, _, _, rfl, rfl, L5, a2, k _ v2 o2 all k2 ⟨fun z => by omega, fun _ => b2, fun z => by omega⟩⟩
    · exact ⟨_, rfl, p10, _, _, _, rfl, rfl, SqL.of upd_same, rfl, _, rfl, c, _, _, _, rfl, rfl, SC, at0, _, _, rfl, rfl, (by show (0 : Int) < 9; decide), p9, _, _, _, rfl, rfl, L9, a3, k _ v3 o3 all k3 ⟨fun z => by omega, fun z => by omega, fun _ => b3⟩⟩
    · exact ⟨_, rfl, p10, _, _, _, rfl, rfl, SqL.of upd_same, rfl, _, rfl, c, _, _, _, rfl, rfl, SC, at0, _, _, rfl, rfl, (by show (0 : Int) < 9; decide), p9, _, _, _, rfl, rfl, L9, a3, k _ v3 o3 all k3 ⟨fun z => by omega, fun z => by omega, fun _ => b3⟩⟩

end K01

namespace K01
open PySem L2 GL

theorem valid_none {b m a : Int} {f l : Option Int} (A : Args5 b m a f l) : badField (some b) (some m) (some a) f l (intV f) (intV l) = none := by
  have h1 : within (some b) 2 36 = true := decide_eq_true A.hb
  have h2 : within (some m) 1 1000000 = true := decide_eq_true A.hm
  have h3 : within (some a) 1 1000000 = true := decide_eq_true A.ha
  have en : ∀ o : Option Int, okEnd o → endOk (intV o) o = true := fun o h => by
    cases o with
    | none => rfl
    | some i =>
      have : within (some i) (-1000) 1000 = true := decide_eq_true h
      simp [endOk, this]
  unfold badField
  rw [h1, h2, h3, en f A.hf, en l A.hl]
  simp only [Bool.true_eq_false, if_false]
  cases f with
  | none => rfl
  | some i =>
    cases l with
    | none => rfl
    | some j =>
      have := A.le i j rfl rfl
      simp only []
      rw [if_neg (by omega)]
theorem small1900 {i : Int} {k : Nat} (h : i.natAbs < 2 ^ k) (hk : k ≤ 1900) : i.natAbs < 2 ^ 1900 := Nat.lt_of_lt_of_le h (Nat.pow_le_pow_right (by decide) hk)
theorem sw_opt {o : Option Int} (h : okEnd o) : Sw (optD o) 0 0 := by
  cases o with
  | none => exact Sw.none
  | some i =>
    have : -1000 ≤ i ∧ i ≤ 1000 := h
    exact Sw.int (small1900 (show i.natAbs < 2 ^ 10 by omega) (by decide))
theorem sw_args {b m a : Int} {f l : Option Int} (A : Args5 b m a f l) : Sw (.list (dargs b m a f l)) 5 50 :=
  (Sw.list (.cons (.int (small1900 (show b.natAbs < 2 ^ 6 by have := A.hb; omega) (by decide))) (.cons (.int (small1900 (show m.natAbs < 2 ^ 20 by have := A.hm; omega) (by decide)))
    (.cons (.int (small1900 (show a.natAbs < 2 ^ 20 by have := A.ha; omega) (by decide))) (.cons (sw_opt A.hf) (.cons (sw_opt A.hl) .nil)))))).up (by decide) (by decide)
/-- made of valid arguments: a row -/
theorem made_ok {K : PySem.W.Frag} {C CE : Addr} {H : Hp} {Q : VK} {E : XK} {c : Addr} {b m a : Int} {f l : Option Int} (A : Args5 b m a f l) (hS : SqL K H c (args5 b m a f l))
    (k : ∀ (H' : Hp) (p : Addr), Same H H' → H p = none → RowAt K C H' p (args5 b m a f l) → Q (.ref p) H') : sp_made K C CE [.ref c] H Q E :=
  ⟨c, _, _, _, _, _, some b, some m, some a, f, l, rfl, hS, .int _, .int _, .int _, kd_opt f, kd_opt l, And.intro (fun x (hx : badField (some b) (some m) (some a) f l (intV f) (intV l) = some x) => by rw [valid_none A] at hx; cases hx) (fun _ H' p s hp h => k H' p s hp h)⟩
theorem call_reprK {X : Cx} {A : Around} {K : PySem.W.Frag} (eA : X.A = A) (eK : X.K = K) (quiet : Quiet A) (hu : A.units + 64 < cLine) : CallR X (.builtin "repr") (rRepr K) := by
  subst eA
  subst eK
  exact call_repr quiet hu
theorem yesT {σ : St} {H : Hp} {A B : Hp → Prop} (h : A H) : tYes σ H fun b H3 => if b = true then A H3 else B H3 := by
  show if true = true then A H else B H
  exact iteT h
def ov : V → Option Int
  | .int i => some i
  | _ => none
/-- what repr shows of has_place -/
def sv (f l : Option Int) (v : V) : V := .str (PyData.shown (.bool (hasP f l (ov v))))
def dv (f l : Option Int) (v : V) : PyData := .str (PyData.shown (.bool (hasP f l (ov v))))
theorem sv_dp {K : PySem.W.Frag} {H : Hp} (f l : Option Int) : ∀ xs : List V, DpAll K H (xs.map (sv f l)) (xs.map (dv f l))
  | [] => .nil
  | _ :: xs => .cons (.str _) (sv_dp f l xs)
theorem dv_lay (f l : Option Int) : ∀ xs : List V, PyData.canLayAll0 (xs.map (dv f l)) = true
  | [] => rfl
  | x :: xs => by
    have h : (dv f l x).canLay0 = true := by
      unfold dv
      cases hasP f l (ov x) <;> decide +kernel
    simp only [List.map_cons, PyData.canLayAll0, h, dv_lay f l xs, Bool.and_self]
theorem dv_flat (f l : Option Int) : ∀ xs : List V, PyData.depthAll (xs.map (dv f l)) = 0
  | [] => rfl
  | x :: xs => by
    simp only [List.map_cons, PyData.depthAll, dv_flat f l xs]
    rfl
theorem dv_shaped (f l : Option Int) (xs : List V) : SeqAt.shaped (.list (xs.map (dv f l))) = true := by
  unfold SeqAt.shaped
  simp only [PyData.canLay0, dv_lay, PyData.depth, dv_flat, Bool.true_and]
  decide
theorem dv_refl (f l : Option Int) (xs : List V) : PyData.eqv (.list (xs.map (dv f l))) (.list (xs.map (dv f l))) = true :=
  SeqAt.eqv_refl _ (by simp only [PyData.canLay0, dv_lay])
theorem sq_some {xs : List V} {i : Nat} {x : V} (h : xs[i]? = some x) : xs.take (i + 1) = xs.take i ++ [x] := by
  rw [List.take_succ, h]
  rfl
/-- _law_is_right, _law_unlike: True -/
def sp_yes (K : PySem.W.Frag) : Sp := fun vs H Q _ => ∃ c b m a f l, vs = [.ref c] ∧ SqL K H c (args5 b m a f l) ∧ Args5 b m a f l ∧ ∀ H', Same H H' → Q (.bl true) H'

theorem ok_law_is_right {P : Program} {w : World} {K : PySem.W.Frag} {mg : Str → Option Value} {base : Heap} (T : Tx K mg) : FnG P w K mg base CX0 9 T.f_law_is_right T.fd_law_is_right ["_law_some"] (sp_yes K) := by
  have G_law_made := ok_law_made (P := P) (w := w) (base := base) T
  have G_law_has := ok_law_has (P := P) (w := w) (base := base) T
  have G_Row_base := ok_Row_base (P := P) (w := w) (base := base) T
  have G_Row_move_cost := ok_Row_move_cost (P := P) (w := w) (base := base) T
  have G_Row_add_cost := ok_Row_add_cost (P := P) (w := w) (base := base) T
  have G_Row_first := ok_Row_first (P := P) (w := w) (base := base) T
  have G_Row_last := ok_Row_last (P := P) (w := w) (base := base) T
  have G_Row_has_place := ok_Row_has_place (P := P) (w := w) (base := base) T
  refine (FnG.mk0 T.law_is_right.F sc_law_is_right (fun vs H Q E h => ?_) (fun cdv A outer s H vs Q E quiet hr h => ?_))
  · obtain ⟨c, b, m, a, f, l, rfl, hS, A, k⟩ := h
    rfl
  · obtain ⟨c, b, m, a, f, l, rfl, hS, A, k⟩ := h
    have hu := hu_of hr
    have hu64 := hr.units
    refine ⟨_, (pss_cons (ps_set (i := 1) sc_law_is_right.nd rfl (Or.inr rfl) (pe_call G_law_made (hr.mono (by decide)) rfl T.law_made.g T.law_made.F.kp T.law_made.b .nil pass_no (pa_cons (pv 0) pa_nil)))
        (pss_cons (ps_if (pt_cmpR op_ne (pe_callB (call_reprK (K := K) rfl rfl quiet hu64) (by rfl) T.b_repr (by decide +kernel) (pa_cons (pe_lst (pa_cons (pe_prop (pv 1) T.cl T.p_Row_base G_Row_base (hr.mono (by decide)) T.b_Row_base .nil pass0 rfl) (pa_cons (pe_prop (pv 1) T.cl T.p_Row_move_cost G_Row_move_cost (hr.mono (by decide)) T.b_Row_move_cost .nil pass0 rfl) (pa_cons (pe_prop (pv 1) T.cl T.p_Row_add_cost G_Row_add_cost (hr.mono (by decide)) T.b_Row_add_cost .nil pass0 rfl) (pa_cons (pe_prop (pv 1) T.cl T.p_Row_first G_Row_first (hr.mono (by decide)) T.b_Row_first .nil pass0 rfl) (pa_cons (pe_prop (pv 1) T.cl T.p_Row_last G_Row_last (hr.mono (by decide)) T.b_Row_last .nil pass0 rfl) pa_nil)))))) pa_nil)) (pe_callB (call_reprK (K := K) rfl rfl quiet hu64) (by rfl) T.b_repr (by decide +kernel) (pa_cons (pv 0) pa_nil)) (nomark _)) (pss_one (ps_ret pe_bl)) pss_nil)
        (pss_cons (ps_set (i := 2) sc_law_is_right.nd rfl (Or.inl rfl) (pe_lst (pa_cons (pe_un un_neg pe_int) (pa_cons (pe_un un_neg pe_int) (pa_cons (pe_un un_neg pe_int) (pa_cons (pe_un un_neg pe_int) (pa_cons (pe_un un_neg pe_int) (pa_cons pe_int (pa_cons pe_int (pa_cons pe_int (pa_cons pe_int (pa_cons pe_int (pa_cons pe_int (pa_cons pe_int (pa_cons pe_int (pa_cons pe_int (pa_cons pe_non (pa_cons pe_bl (pa_cons pe_bl (pa_cons pe_str (pa_cons (pe_tup (pa_cons pe_int pa_nil)) (pa_cons (pe_lst pa_nil) (pa_cons (pe_op op_pow pe_int pe_int) pa_nil)))))))))))))))))))))))
        (pss_one (ps_ret (pe_cmpR (op_eqD hu64) (pe_lc (own := [("_law_value", 3)]) (g := gName 3) (tt := tYes) rfl sc_law_is_right.nd (pi_list (pv 2)) (blkOk_by (own := [("_law_value", 3)]) (N := ["_law_some", "_law_row", "_law_values", "_law_value"]) (sc := defScope s_law_is_right) (by decide +kernel)) (fun _ _ _ _ _ => pg_name (i := 3) sc_law_is_right.nd rfl (Or.inl rfl)) (fun _ _ _ _ _ => pts_nil) (fun _ _ _ _ _ => (pe_callB (call_reprK (K := K) rfl rfl quiet hu64) (by rfl) T.b_repr (by decide +kernel) (pa_cons (pe_meth (pv 1) T.cl T.m_Row_has_place G_Row_has_place (hr.mono (by decide)) T.b_Row_has_place .nil pass0 (pa_cons (pv 3) pa_nil)) pa_nil)))) (pe_lc (own := [("_law_value", 3)]) (g := gName 3) (tt := tYes) rfl sc_law_is_right.nd (pi_list (pv 2)) (blkOk_by (own := [("_law_value", 3)]) (N := ["_law_some", "_law_row", "_law_values", "_law_value"]) (sc := defScope s_law_is_right) (by decide +kernel)) (fun _ _ _ _ _ => pg_name (i := 3) sc_law_is_right.nd rfl (Or.inl rfl)) (fun _ _ _ _ _ => pts_nil) (fun _ _ _ _ _ => (pe_callB (call_reprK (K := K) rfl rfl quiet hu64) (by rfl) T.b_repr (by decide +kernel) (pa_cons (pe_call G_law_has (hr.mono (by decide)) rfl T.law_has.g T.law_has.F.kp T.law_has.b .nil pass0 (pa_cons (pv 0) (pa_cons (pv 3) pa_nil))) pa_nil)))) (nomark _))))))), ?_⟩
    refine ⟨_, rfl, made_ok A hS fun H1 p s1 hp hR => ?_⟩
    obtain ⟨dx, q, h1, h2⟩ := id hR.ob
    have swA := sw_args A
    have lenA := swA.len (by decide)
    have depA := Nat.le_trans swA.dp (show 5 ≤ 60 by decide)
    refine ⟨_, rfl, p, dx, _, rfl, h1, p, .int b, .int m, .int a, intV f, intV l, rfl, hR, _, rfl, p, dx, _, rfl, h1, p, .int b, .int m, .int a, intV f, intV l, rfl, hR, _, rfl, p, dx, _, rfl, h1, p, .int b, .int m, .int a, intV f, intV l, rfl, hR, _, rfl, p, dx, _, rfl, h1, p, .int b, .int m, .int a, intV f, intV l, rfl, hR, _, rfl, p, dx, _, rfl, h1, p, .int b, .int m, .int a, intV f, intV l, rfl, hR, (by show 5 ≤ sizeLine; decide), fun r hr1 => ?_⟩
    have t1 := same_new (o := .lst (args5 b m a f l)) (Same.refl _) hr1
    refine ⟨_, .list (dargs b m a f l), rfl, .data (.lst (SqL.of upd_same) (args_dp _ _ _ _ _)), swA.sh, depA, lenA, ?_⟩
    refine ⟨_, rfl, _, .list (dargs b m a f l), rfl, .data (.lst ((s1.trans t1).seq hS) (args_dp _ _ _ _ _)), swA.sh, depA, lenA, ?_⟩
    refine ⟨rfl, _, rfl, ?_⟩
    refine ifNn rfl ?_
    refine ⟨_, rfl, _, rfl, _, rfl, _, rfl, _, rfl, (by show 1 ≤ sizeLine; decide), fun q1 hq1 => ?_⟩
    have t2 := same_new (o := .tup [V.int 0]) (Same.refl _) hq1
    refine ⟨(by show 0 ≤ sizeLine; decide), fun q2 hq2 => ?_⟩
    have t3 := same_new (o := .lst []) (Same.refl _) hq2
    refine ⟨_, _, rfl, rfl, ⟨by decide, by decide, by decide⟩, (by show 21 ≤ sizeLine; decide), fun q3 hq3 => ?_⟩
    have t4 := same_new (o := .lst [V.int (-1001), .int (-1000), .int (-4), .int (-3), .int (-1), .int 0, .int 4, .int 5, .int 6, .int 7, .int 8, .int 999, .int 1000, .int 1001, .non, .bl true, .bl false, .str "0", .ref q1, .ref q2, .int (10 ^ (20 : Int).toNat)]) (Same.refl _) hq3
    have T1 := (t3.trans t4) q1 _ upd_same
    have T2 := t4 q2 _ upd_same
    have c1 := t1.trans (t2.trans (t3.trans t4))
    have kinds : ∀ (H' : Hp), Same _ H' → ∀ v ∈ [V.int (-1001), .int (-1000), .int (-4), .int (-3), .int (-1), .int 0, .int 4, .int 5, .int 6, .int 7, .int 8, .int 999, .int 1000, .int 1001, .non, .bl true, .bl false, .str "0", .ref q1, .ref q2, .int (10 ^ (20 : Int).toNat)], Kd K H' v (ov v) := fun H' s v hv => by
      simp only [List.mem_cons, List.not_mem_nil, or_false] at hv
      rcases hv with rfl | rfl | rfl | rfl | rfl | rfl | rfl | rfl | rfl | rfl | rfl | rfl | rfl | rfl | rfl | rfl | rfl | rfl | rfl | rfl | rfl
      all_goals first | exact .int _ | exact .non | exact .bl _ | exact .str _ | exact .tup (SqT.of (s q1 _ T1)) | exact .lst (SqL.of (s q2 _ T2))
    have noM : ∀ t : Addr, ([(("settings" : Str), V.ref t)] : List (Str × V)).lookup ("has_place" : Str) = none := fun t => rfl
    refine ⟨_, rfl, q3, rfl, ⟨_, SqL.of upd_same⟩, fun D hD => lc_list (xs := [V.int (-1001), .int (-1000), .int (-4), .int (-3), .int (-1), .int 0, .int 4, .int 5, .int 6, .int 7, .int 8, .int 999, .int 1000, .int 1001, .non, .bl true, .bl false, .str "0", .ref q1, .ref q2, .int (10 ^ (20 : Int).toNat)]) (fun i H' => H' D = some (.lst (([V.int (-1001), .int (-1000), .int (-4), .int (-3), .int (-1), .int 0, .int 4, .int 5, .int 6, .int 7, .int 8, .int 999, .int 1000, .int 1001, .non, .bl true, .bl false, .str "0", .ref q1, .ref q2, .int (10 ^ (20 : Int).toNat)].take i).map (sv f l))) ∧ Same _ H') ⟨upd_same, same_new (Same.refl _) hD⟩ (fun i H' _ h => SqL.of (h.2 q3 _ upd_same)) ?_ ?_⟩
    · rintro i x H' hi ⟨hd, sm⟩
      refine ⟨rfl, yesT ?_⟩
      have R' := rowAt_same (c1.trans sm) hR
      obtain ⟨dx', q', g1, g2⟩ := id R'.ob
      refine ⟨_, rfl, p, dx', _, rfl, g1, noM _, _, rfl, p, .int b, .int m, .int a, f, l, x, ov x, rfl, R', kinds H' sm x (List.mem_of_getElem? hi), ?_⟩
      refine ⟨_, .bool (hasP f l (ov x)), rfl, .data (.bl _), rfl, Nat.zero_le _, (Sw.bool _).len (by decide), ?_⟩
      refine ⟨_, hd, ?_, ?_, same_new sm hD⟩
      · rw [List.length_map, List.length_take]
        exact small1000 (Nat.le_trans (Nat.min_le_right i 21) (by decide))
      · rw [upd_same, sq_some hi, List.map_append]
        rfl
    rintro H2 ⟨hd1, sm1⟩
    have c2 := c1.trans sm1
    refine ⟨_, rfl, q3, rfl, ⟨_, SqL.of (sm1 q3 _ upd_same)⟩, fun D2 hD2 => lc_list (xs := [V.int (-1001), .int (-1000), .int (-4), .int (-3), .int (-1), .int 0, .int 4, .int 5, .int 6, .int 7, .int 8, .int 999, .int 1000, .int 1001, .non, .bl true, .bl false, .str "0", .ref q1, .ref q2, .int (10 ^ (20 : Int).toNat)]) (fun i H' => H' D2 = some (.lst (([V.int (-1001), .int (-1000), .int (-4), .int (-3), .int (-1), .int 0, .int 4, .int 5, .int 6, .int 7, .int 8, .int 999, .int 1000, .int 1001, .non, .bl true, .bl false, .str "0", .ref q1, .ref q2, .int (10 ^ (20 : Int).toNat)].take i).map (sv f l))) ∧ Same H2 H') ⟨upd_same, same_new (Same.refl _) hD2⟩ (fun i H' _ h => SqL.of (h.2 q3 _ (sm1 q3 _ upd_same))) ?_ ?_⟩
    · rintro i x H' hi ⟨hd, sm⟩
      refine ⟨rfl, yesT ?_⟩
      refine ⟨_, rfl, _, rfl, c, b, m, a, f, l, x, ov x, rfl, ((s1.trans c2).trans sm).seq hS, kinds H' (sm1.trans sm) x (List.mem_of_getElem? hi), ?_⟩
      refine ⟨_, .bool (hasP f l (ov x)), rfl, .data (.bl _), rfl, Nat.zero_le _, (Sw.bool _).len (by decide), ?_⟩
      refine ⟨_, hd, ?_, ?_, same_new sm hD2⟩
      · rw [List.length_map, List.length_take]
        exact small1000 (Nat.le_trans (Nat.min_le_right i 21) (by decide))
      · rw [upd_same, sq_some hi, List.map_append]
        rfl
    rintro H3 ⟨hd2, sm2⟩
    rw [List.take_length] at hd1 hd2
    refine ⟨_, _, .lst (SqL.of (sm2 D _ hd1)) (sv_dp f l _), .lst (SqL.of hd2) (sv_dp f l _), dv_shaped f l _, dv_shaped f l _, ?_⟩
    rw [dv_refl]
    exact k _ ((s1.trans c2).trans sm2)

end K01

namespace K01
open PySem L2 GL

/-- _law_unlike's values -/
abbrev othersV (b m a : Int) : List (List V) := [[.int (2 + (b + 7) % 35)], [.int (1 + m % 9)], [.int (1 + a % 9)], [.int (-1000), .non], [.int 1000, .non]]
theorem cut_len (xs : List V) (lo hi : Option Int) : (cutV xs lo hi).length ≤ xs.length := by
  unfold cutV
  rw [List.length_take, List.length_drop]
  omega
theorem dec_v {i j : Int} : decide (V.int i = V.int j) = decide (i = j) := by
  by_cases h : i = j <;> simp [h]
theorem dec_o {x y : Option Int} : decide (intV x = intV y) = decide (x = y) := by
  cases x <;> cases y <;> simp [intV]
theorem scal_o (x y : Option Int) : scal (intV x) (intV y) = true := by cases x <;> cases y <;> rfl
/-- other arguments at one place: what they are, and whether they are equal -/
def Unl (b m a : Int) (f l : Option Int) (i : Nat) (x : V) : Prop :=
    ∃ b' m' a' f' l' w, Args5 b' m' a' f' l' ∧ (cutV (args5 b m a f l) none (some (i : Int)) ++ [x]) ++ cutV (args5 b m a f l) (some ((i : Int) + 1)) none = args5 b' m' a' f' l' ∧
      (cutV (args5 b m a f l) none (some (i : Int))).length ≤ 5 ∧ (cutV (args5 b m a f l) (some ((i : Int) + 1)) none).length ≤ 5 ∧
      atI (args5 b m a f l) i = some w ∧ scal x w = true ∧ eq5 b' m' a' f' l' b m a f l = decide (x = w)
theorem unlike_fact {b m a : Int} {f l : Option Int} (A : Args5 b m a f l) (i : Nat) (ys : List V) (h : (othersV b m a)[i]? = some ys) (x : V) (hx : x ∈ ys) : Unl b m a f l i x := by
  match i, h with
  | 0, h =>
    cases h
    rw [List.mem_singleton] at hx
    subst hx
    exact ⟨_, m, a, f, l, .int b, ⟨by omega, A.hm, A.ha, A.hf, A.hl, A.le⟩, rfl, cut_len _ _ _, cut_len _ _ _, rfl, rfl, by rw [eq5_eq, dec_v]; simp⟩
  | 1, h =>
    cases h
    rw [List.mem_singleton] at hx
    subst hx
    exact ⟨b, _, a, f, l, .int m, ⟨A.hb, by omega, A.ha, A.hf, A.hl, A.le⟩, rfl, cut_len _ _ _, cut_len _ _ _, rfl, rfl, by rw [eq5_eq, dec_v]; simp⟩
  | 2, h =>
    cases h
    rw [List.mem_singleton] at hx
    subst hx
    exact ⟨b, m, _, f, l, .int a, ⟨A.hb, A.hm, by omega, A.hf, A.hl, A.le⟩, rfl, cut_len _ _ _, cut_len _ _ _, rfl, rfl, by rw [eq5_eq, dec_v]; simp⟩
  | 3, h =>
    cases h
    have go : ∀ o : Option Int, okEnd o → (∀ i j, o = some i → l = some j → i ≤ j) → Unl b m a f l 3 (intV o) := fun o ho hl =>
      ⟨b, m, a, o, l, intV f, ⟨A.hb, A.hm, A.ha, ho, A.hl, hl⟩, rfl, cut_len _ _ _, cut_len _ _ _, rfl, scal_o _ _, by rw [eq5_eq, dec_o]; simp⟩
    simp only [List.mem_cons, List.not_mem_nil, or_false] at hx
    rcases hx with rfl | rfl
    · refine go (some (-1000)) (by show (-1000 : Int) ≤ -1000 ∧ (-1000 : Int) ≤ 1000; decide) (fun i j e1 e2 => ?_)
      cases e1
      have := A.hl
      rw [e2] at this
      exact this.1
    · exact go none trivial (fun i j e1 _ => nomatch e1)
  | 4, h =>
    cases h
    have go : ∀ o : Option Int, okEnd o → (∀ i j, f = some i → o = some j → i ≤ j) → Unl b m a f l 4 (intV o) := fun o ho hl =>
      ⟨b, m, a, f, o, intV l, ⟨A.hb, A.hm, A.ha, A.hf, ho, hl⟩, rfl, cut_len _ _ _, cut_len _ _ _, rfl, scal_o _ _, by rw [eq5_eq, dec_o]; simp⟩
    simp only [List.mem_cons, List.not_mem_nil, or_false] at hx
    rcases hx with rfl | rfl
    · refine go (some 1000) (by show (-1000 : Int) ≤ 1000 ∧ (1000 : Int) ≤ 1000; decide) (fun i j e1 e2 => ?_)
      cases e2
      have := A.hf
      rw [e1] at this
      exact this.2
    · exact go none trivial (fun i j _ e1 => nomatch e1)
  | i + 5, h => cases h

theorem ok_law_unlike {P : Program} {w : World} {K : PySem.W.Frag} {mg : Str → Option Value} {base : Heap} (T : Tx K mg) : FnOk P w K mg base CX0 9 T.f_law_unlike T.fd_law_unlike ["_law_some"] (sp_yes K) := by
  have G_law_made := ok_law_made (P := P) (w := w) (base := base) T
  have G_Row_eq := ok_Row_eq (P := P) (w := w) (base := base) T
  refine (T.law_unlike.F.ok sc_law_unlike (fun vs H Q E h => ?_) (fun cdv A outer s H vs Q E hr h => ?_))
  · obtain ⟨c, b, m, a, f, l, rfl, hS, A, k⟩ := h
    rfl
  · obtain ⟨c, b, m, a, f, l, rfl, hS, A, k⟩ := h
    have hu := hu_of hr
    refine ⟨_, (pss_cons (ps_set (i := 1) sc_law_unlike.nd rfl (Or.inl rfl) (pe_lst (pa_cons (pe_lst (pa_cons (pe_op op_add pe_int (pe_op op_mod (pe_op op_add (pe_ix ix_list (pv 0) pe_int (fun _ _ => rfl)) pe_int) pe_int)) pa_nil)) (pa_cons (pe_lst (pa_cons (pe_op op_add pe_int (pe_op op_mod (pe_ix ix_list (pv 0) pe_int (fun _ _ => rfl)) pe_int)) pa_nil)) (pa_cons (pe_lst (pa_cons (pe_op op_add pe_int (pe_op op_mod (pe_ix ix_list (pv 0) pe_int (fun _ _ => rfl)) pe_int)) pa_nil)) (pa_cons (pe_lst (pa_cons (pe_un un_neg pe_int) (pa_cons pe_non pa_nil))) (pa_cons (pe_lst (pa_cons pe_int (pa_cons pe_non pa_nil))) pa_nil)))))))
        (pss_cons (ps_for PassesOwn.never rfl (pi_enum (by rfl) T.b_enumerate (pa_cons (pv 1) pa_nil)) (pg_tup rfl (pgs_cons (pg_name (i := 2) sc_law_unlike.nd rfl (Or.inl rfl)) (pgs_cons (pg_name (i := 3) sc_law_unlike.nd rfl (Or.inl rfl)) pgs_nil))) (pss_one (ps_for PassesOwn.never rfl (pi_list (pv 3)) (pg_name (i := 4) sc_law_unlike.nd rfl (Or.inl rfl)) (pss_cons (ps_set (i := 5) sc_law_unlike.nd rfl (Or.inl rfl) (pe_op op_cat (pe_op op_cat (pe_slice sl_list (pv 0) po_none (po_some (pv 2))) (pe_lst (pa_cons (pv 4) pa_nil))) (pe_slice sl_list (pv 0) (po_some (pe_op op_add (pv 2) pe_int)) po_none)))
        (pss_one (ps_if (pt_cmpR op_ne (pe_cmpR (op_insEq G_Row_eq (hr.mono (by decide)) T.m_Row_eq.at_ T.m_Row_eq.fn T.b_Row_eq pass0 (Nat.lt_of_succ_lt hu)) (pe_call G_law_made (hr.mono (by decide)) rfl T.law_made.g T.law_made.F.kp T.law_made.b .nil pass_no (pa_cons (pv 5) pa_nil)) (pe_call G_law_made (hr.mono (by decide)) rfl T.law_made.g T.law_made.F.kp T.law_made.b .nil pass_no (pa_cons (pv 0) pa_nil)) (nomark _)) (pe_cmpR op_eq (pv 4) (pe_ix ix_list (pv 0) (pv 2) (fun _ _ => rfl)) (nomark _)) (nomark _)) (pss_one (ps_ret pe_bl)) pss_nil))))))
        (pss_one (ps_ret pe_bl)))), ?_⟩
    refine ⟨_, rfl, c, _, _, _, rfl, rfl, hS, rfl, _, _, rfl, rfl, _, _, rfl, rfl, (by show (0 : Int) < 35; decide), _, _, rfl, rfl, (by show 1 ≤ sizeLine; decide), fun q0 hq0 => ?_⟩
    have t0 := same_new (o := .lst [V.int (2 + (b + 7) % 35)]) (Same.refl _) hq0
    refine ⟨_, rfl, c, _, _, _, rfl, rfl, t0.seq hS, rfl, _, _, rfl, rfl, (by show (0 : Int) < 9; decide), _, _, rfl, rfl, (by show 1 ≤ sizeLine; decide), fun q1 hq1 => ?_⟩
    have t1 := same_new (o := .lst [V.int (1 + m % 9)]) (Same.refl _) hq1
    refine ⟨_, rfl, c, _, _, _, rfl, rfl, (t0.trans t1).seq hS, rfl, _, _, rfl, rfl, (by show (0 : Int) < 9; decide), _, _, rfl, rfl, (by show 1 ≤ sizeLine; decide), fun q2 hq2 => ?_⟩
    have t2 := same_new (o := .lst [V.int (1 + a % 9)]) (Same.refl _) hq2
    refine ⟨_, rfl, (by show 2 ≤ sizeLine; decide), fun q3 hq3 => ?_⟩
    have t3 := same_new (o := .lst [V.int (-1000), .non]) (Same.refl _) hq3
    refine ⟨(by show 2 ≤ sizeLine; decide), fun q4 hq4 => ?_⟩
    have t4 := same_new (o := .lst [V.int 1000, .non]) (Same.refl _) hq4
    refine ⟨(by show 5 ≤ sizeLine; decide), fun q5 hq5 => ?_⟩
    have t5 := same_new (o := .lst [V.ref q0, .ref q1, .ref q2, .ref q3, .ref q4]) (Same.refl _) hq5
    have u3 := t4.trans t5
    have u2 := t3.trans u3
    have u1 := t2.trans u2
    have u0 := t1.trans u1
    have all := t0.trans u0
    have S0 := SqL.of (K := K) (u0 q0 _ upd_same)
    have S1 := SqL.of (K := K) (u1 q1 _ upd_same)
    have S2 := SqL.of (K := K) (u2 q2 _ upd_same)
    have S3 := SqL.of (K := K) (u3 q3 _ upd_same)
    have S4 := SqL.of (K := K) (t5 q4 _ upd_same)
    have S5 := SqL.of (K := K) (upd_same (H := upd (upd (upd (upd (upd H q0 (.lst [V.int (2 + (b + 7) % 35)])) q1 (.lst [V.int (1 + m % 9)])) q2 (.lst [V.int (1 + a % 9)])) q3 (.lst [V.int (-1000), .non])) q4 (.lst [V.int 1000, .non])) (a := q5) (o := .lst [V.ref q0, .ref q1, .ref q2, .ref q3, .ref q4]))
    generalize upd (upd (upd (upd (upd (upd H q0 (.lst [V.int (2 + (b + 7) % 35)])) q1 (.lst [V.int (1 + m % 9)])) q2 (.lst [V.int (1 + a % 9)])) q3 (.lst [V.int (-1000), .non])) q4 (.lst [V.int 1000, .non])) q5 (.lst [V.ref q0, .ref q1, .ref q2, .ref q3, .ref q4]) = H5 at *
    refine ⟨_, rfl, q5, _, rfl, S5, ?_⟩
    refine for_it (walk_enum (K := K) (a := q5) (xs := [V.ref q0, .ref q1, .ref q2, .ref q3, .ref q4])) (fun i σ H' => Same H5 H' ∧ ∃ v2 v3 v4 v5, σ = [some (.ref c), some (.ref q5), v2, v3, v4, v5]) ?_ ?_ ?_ ?_
    · exact ⟨Same.refl _, _, _, _, _, rfl⟩
    · rintro i σ H' _ ⟨s, _⟩
      exact s.seq S5
    · rintro i x σ H0 H' hi ⟨sm0, v2, v3, v4, v5, rfl⟩ ⟨tt, k0, c0, rfl, htt, rfl, ek, ec⟩
      cases ek
      have t1 := same_new (o := .tup [.int (i : Nat), c0]) (Same.refl _) htt
      refine ⟨tt, _, rfl, SqT.of upd_same, rfl, _, _, rfl, _, _, rfl, rfl, ?_⟩
      have sm1 := sm0.trans t1
      have pick : ∃ q ys, c0 = .ref q ∧ SqL K H5 q ys ∧ (othersV b m a)[i]? = some ys := by
        match i, ec with
        | 0, ec => cases ec; exact ⟨_, _, rfl, S0, rfl⟩
        | 1, ec => cases ec; exact ⟨_, _, rfl, S1, rfl⟩
        | 2, ec => cases ec; exact ⟨_, _, rfl, S2, rfl⟩
        | 3, ec => cases ec; exact ⟨_, _, rfl, S3, rfl⟩
        | 4, ec => cases ec; exact ⟨_, _, rfl, S4, rfl⟩
        | i + 5, ec => cases ec
      obtain ⟨q, ys, rfl, Sq, hys⟩ := pick
      refine ⟨_, rfl, q, rfl, ⟨_, sm1.seq Sq⟩, ?_⟩
      refine for_list (K := K) (a := q) (xs := ys) (fun j σ H' => Same H5 H' ∧ ∃ v4 v5, σ = [some (.ref c), some (.ref q5), some (.int (i : Nat)), some (.ref q), v4, v5]) ?_ ?_ ?_ ?_
      · exact ⟨sm1, _, _, rfl⟩
      · rintro j σ H' _ ⟨s, _⟩
        exact s.seq Sq
      · rintro j x σ H1 hj ⟨s1, v4, v5, rfl⟩
        obtain ⟨b', m', a', f', l', w, A', ecut, le1, le2, hat, hsc, heq⟩ := unlike_fact A i ys hys x (List.mem_of_getElem? hj)
        have c1 := all.trans s1
        refine ⟨_, rfl, _, rfl, _, rfl, c, _, rfl, c1.seq hS, fun r1 hr1 => ?_⟩
        have z1 := same_new (o := .lst (cutV (args5 b m a f l) none (some (i : Int)))) (Same.refl _) hr1
        refine ⟨_, rfl, (by show 1 ≤ sizeLine; decide), fun r2 hr2 => ?_⟩
        have z2 := same_new (o := .lst [x]) (Same.refl _) hr2
        refine ⟨r1, r2, _, _, rfl, rfl, z2 r1 _ upd_same, upd_same, Nat.le_trans (Nat.add_le_add_right le1 1) (by decide), fun r3 hr3 => ?_⟩
        have z3 := same_new (o := .lst (cutV (args5 b m a f l) none (some (i : Int)) ++ [x])) (Same.refl _) hr3
        have z123 := z1.trans (z2.trans z3)
        refine ⟨_, rfl, _, rfl, _, _, rfl, rfl, _, rfl, c, _, rfl, (c1.trans z123).seq hS, fun r4 hr4 => ?_⟩
        have z4 := same_new (o := .lst (cutV (args5 b m a f l) (some ((i : Int) + 1)) none)) (Same.refl _) hr4
        refine ⟨r3, r4, _, _, rfl, rfl, z4 r3 _ upd_same, upd_same, Nat.le_trans (Nat.add_le_add (by rw [List.length_append]; exact Nat.add_le_add_right le1 1) le2) (by decide), fun r5 hr5 => ?_⟩
        rw [ecut]
        have z5 := same_new (o := .lst (args5 b' m' a' f' l')) (Same.refl _) hr5
        have c2 := c1.trans (z123.trans (z4.trans z5))
        have s2 := s1.trans (z123.trans (z4.trans z5))
        refine ⟨_, rfl, made_ok A' (SqL.of upd_same) fun H2 p1 y1 hp1 R1 => ?_⟩
        refine ⟨_, rfl, made_ok A ((c2.trans y1).seq hS) fun H3 p2 y2 hp2 R2 => ?_⟩
        have R1' := rowAt_same y2 R1
        obtain ⟨dx, t, g1, g2⟩ := id R1'.ob
        obtain ⟨dx2, tb2, g3, g4⟩ := id R2.ob
        refine ⟨p1, dx, _, _, rfl, g1, T.ty g3, T.x_nfRow, p1, _, _, _, _, _, .ref p2, rfl, R1', .inl ⟨p2, _, _, _, _, _, rfl, R2, ?_⟩⟩
        refine ⟨_, rfl, _, rfl, _, rfl, c, _, _, _, rfl, rfl, ((c2.trans y1).trans y2).seq hS, hat, hsc, rfl, _, rfl, ?_⟩
        refine ifNn (show V.bl (eq5 b' m' a' f' l' b m a f l) = V.bl (decide (x = w)) by rw [heq]) ?_
        exact ⟨s2.trans (y1.trans y2), _, _, rfl⟩
      · rintro σ H' ⟨s, v4, v5, rfl⟩
        exact ⟨s, _, _, _, _, rfl⟩
    · rintro σ H' ⟨s, v2, v3, v4, v5, rfl⟩
      exact k _ (all.trans s)

end K01

namespace K01
open PySem L2 GL

theorem kd_set {K : PySem.W.Frag} {H : Hp} {p : Addr} {xs ys : List V} (hp : H p = some (.lst xs)) {v : V} {o : Option Int} (h : Kd K H v o) : Kd K (upd H p (.lst ys)) v o := by
  cases h with
  | non => exact .non
  | bl b => exact .bl b
  | int i => exact .int i
  | str x => exact .str x
  | @lst a zs h =>
    by_cases e : a = p
    · subst e
      exact .lst (SqL.of upd_same)
    · rcases h with (h | ⟨o, h⟩) | h
      · exact .lst (.inl (.inl (by rw [upd_ne e]; exact h)))
      · exact .lst (.inl (.inr ⟨o, by rw [upd_ne e]; exact h⟩))
      · exact .lst (.inr h)
  | @tup a zs h =>
    rcases h with (h | ⟨o, h⟩) | h
    · exact .tup (.inl (.inl (by rw [upd_ne (fun z => by rw [z, hp] at h; cases h)]; exact h)))
    · exact .tup (.inl (.inr ⟨o, by rw [upd_ne (fun z => by rw [z, hp] at h; cases h)]; exact h⟩))
    · exact .tup (.inr h)
  | @dic a kvs h => exact .dic (by rw [upd_ne (fun z => by rw [z, hp] at h; cases h)]; exact h)
def nm : Nat → Str
  | 0 => "base"
  | 1 => "move"
  | 2 => "add"
  | 3 => "first"
  | _ => "last"
/-- a list with a bad place, and perhaps a later one: the first is named -/
def BadL (K : PySem.W.Frag) (H : Hp) (j : Nat) (xs : List V) : Prop :=
  ∃ vb vm va vf vl b m a f l, xs = [vb, vm, va, vf, vl] ∧ Kd K H vb b ∧ Kd K H vm m ∧ Kd K H va a ∧ Kd K H vf f ∧ Kd K H vl l ∧ badField b m a f l vf vl = some (nm j)
theorem end_ok (o : Option Int) (h : okEnd o) : endOk (intV o) o = true := by
  cases o with
  | none => rfl
  | some i =>
    have : within (some i) (-1000) 1000 = true := decide_eq_true h
    simp [endOk, intV, this]
theorem bad_first {K : PySem.W.Frag} {H : Hp} {b m a : Int} {f l : Option Int} (A : Args5 b m a f l) {j t : Nat} (hjt : j ≤ t) (ht : t < 5) {v1 v2 : V} {o1 o2 : Option Int} (k1 : Kd K H v1 o1) (k2 : Kd K H v2 o2) (b2 : BadAt j v2 o2) :
    BadL K H j (((args5 b m a f l).set t v1).set j v2) := by
  have h1 : within (some b) 2 36 = true := decide_eq_true A.hb
  have h2 : within (some m) 1 1000000 = true := decide_eq_true A.hm
  have h3 : within (some a) 1 1000000 = true := decide_eq_true A.ha
  have h4 := end_ok f A.hf
  have kb : Kd K H (.int b) (some b) := .int b
  have km : Kd K H (.int m) (some m) := .int m
  have ka : Kd K H (.int a) (some a) := .int a
  have kf : Kd K H (intV f) f := kd_opt f
  have kl : Kd K H (intV l) l := kd_opt l
  match j, t, ht with
  | 0, 0, _ => exact ⟨_, _, _, _, _, o2, _, _, _, _, rfl, k2, km, ka, kf, kl, by unfold badField; rw [b2.1 rfl]; rfl⟩
  | 0, 1, _ => exact ⟨_, _, _, _, _, o2, _, _, _, _, rfl, k2, k1, ka, kf, kl, by unfold badField; rw [b2.1 rfl]; rfl⟩
  | 0, 2, _ => exact ⟨_, _, _, _, _, o2, _, _, _, _, rfl, k2, km, k1, kf, kl, by unfold badField; rw [b2.1 rfl]; rfl⟩
  | 0, 3, _ => exact ⟨_, _, _, _, _, o2, _, _, _, _, rfl, k2, km, ka, k1, kl, by unfold badField; rw [b2.1 rfl]; rfl⟩
  | 0, 4, _ => exact ⟨_, _, _, _, _, o2, _, _, _, _, rfl, k2, km, ka, kf, k1, by unfold badField; rw [b2.1 rfl]; rfl⟩
  | 1, 1, _ => exact ⟨_, _, _, _, _, _, o2, _, _, _, rfl, kb, k2, ka, kf, kl, by unfold badField; rw [h1, b2.2.1 (.inl rfl)]; rfl⟩
  | 1, 2, _ => exact ⟨_, _, _, _, _, _, o2, _, _, _, rfl, kb, k2, k1, kf, kl, by unfold badField; rw [h1, b2.2.1 (.inl rfl)]; rfl⟩
  | 1, 3, _ => exact ⟨_, _, _, _, _, _, o2, _, _, _, rfl, kb, k2, ka, k1, kl, by unfold badField; rw [h1, b2.2.1 (.inl rfl)]; rfl⟩
  | 1, 4, _ => exact ⟨_, _, _, _, _, _, o2, _, _, _, rfl, kb, k2, ka, kf, k1, by unfold badField; rw [h1, b2.2.1 (.inl rfl)]; rfl⟩
  | 2, 2, _ => exact ⟨_, _, _, _, _, _, _, o2, _, _, rfl, kb, km, k2, kf, kl, by unfold badField; rw [h1, h2, b2.2.1 (.inr rfl)]; rfl⟩
  | 2, 3, _ => exact ⟨_, _, _, _, _, _, _, o2, _, _, rfl, kb, km, k2, k1, kl, by unfold badField; rw [h1, h2, b2.2.1 (.inr rfl)]; rfl⟩
  | 2, 4, _ => exact ⟨_, _, _, _, _, _, _, o2, _, _, rfl, kb, km, k2, kf, k1, by unfold badField; rw [h1, h2, b2.2.1 (.inr rfl)]; rfl⟩
  | 3, 3, _ => exact ⟨_, _, _, _, _, _, _, _, o2, _, rfl, kb, km, ka, k2, kl, by unfold badField; rw [h1, h2, h3, b2.2.2 (.inl rfl)]; rfl⟩
  | 3, 4, _ => exact ⟨_, _, _, _, _, _, _, _, o2, _, rfl, kb, km, ka, k2, k1, by unfold badField; rw [h1, h2, h3, b2.2.2 (.inl rfl)]; rfl⟩
  | 4, 4, _ => exact ⟨_, _, _, _, _, _, _, _, _, o2, rfl, kb, km, ka, kf, k2, by unfold badField; rw [h1, h2, h3, h4, b2.2.2 (.inr rfl)]; rfl⟩
  | j + 1, 0, _ => omega
  | j + 2, 1, _ => omega
  | j + 3, 2, _ => omega
  | j + 4, 3, _ => omega
  | j + 5, 4, _ => omega
  | j, t + 5, _ => omega
/-- last before first -/
theorem bad_far {K : PySem.W.Frag} {H : Hp} {b m a : Int} {f l : Option Int} (A : Args5 b m a f l) {x y : Int} (hx : 0 ≤ x ∧ x < 30) (hy : y < x ∧ -20 ≤ y) : BadL K H 4 [.int b, .int m, .int a, .int x, .int y] := by
  have h1 : within (some b) 2 36 = true := decide_eq_true A.hb
  have h2 : within (some m) 1 1000000 = true := decide_eq_true A.hm
  have h3 : within (some a) 1 1000000 = true := decide_eq_true A.ha
  have h4 := end_ok (some x) (show -1000 ≤ x ∧ x ≤ 1000 by omega)
  have h5 := end_ok (some y) (show -1000 ≤ y ∧ y ≤ 1000 by omega)
  refine ⟨_, _, _, _, _, _, _, _, _, _, rfl, .int _, .int _, .int _, .int _, .int _, ?_⟩
  unfold badField
  rw [h1, h2, h3]
  unfold intV at h4 h5
  rw [h4, h5]
  simp only [Bool.true_eq_false, if_false]
  rw [if_pos hy.1]
  rfl
/-- _law_error of a bad list: the place is named -/
theorem err_bad {K : PySem.W.Frag} {H : Hp} {Q : VK} {E : XK} {c : Addr} {xs : List V} {j : Nat} (hS : SqL K H c xs) (h : BadL K H j xs)
    (k : ∀ (H' : Hp) (p : Addr), Same H H' → H' p = some (.lst [.str (nm j), .bl true, .bl false]) → Q (.ref p) H') : sp_err K [.ref c] H Q E := by
  obtain ⟨vb, vm, va, vf, vl, ob, om, oa, of, ol, rfl, h1, h2, h3, h4, h5, hb⟩ := h
  exact ⟨c, vb, vm, va, vf, vl, ob, om, oa, of, ol, rfl, hS, h1, h2, h3, h4, h5, fun x hx H' p s hp => by rw [hb] at hx; cases hx; exact k H' p s hp, fun hn => by rw [hb] at hn; cases hn⟩
/-- .. of a good one: None -/
theorem err_ok {K : PySem.W.Frag} {H : Hp} {Q : VK} {E : XK} {c : Addr} {b m a : Int} {f l : Option Int} (A : Args5 b m a f l) (hS : SqL K H c (args5 b m a f l)) (k : ∀ H', Same H H' → Q .non H') : sp_err K [.ref c] H Q E :=
  ⟨c, _, _, _, _, _, some b, some m, some a, f, l, rfl, hS, .int _, .int _, .int _, kd_opt f, kd_opt l, And.intro (fun x (hx : badField (some b) (some m) (some a) f l (intV f) (intV l) = some x) => by rw [valid_none A] at hx; cases hx) (fun _ => k)⟩
theorem nm_lay (j : Nat) : SeqAt.shaped (.list [.str (nm j), .bool true, .bool false]) = true ∧ PyData.eqv (.list [.str (nm j), .bool true, .bool false]) (.list [.str (nm j), .bool true, .bool false]) = true := by
  match j with
  | 0 => decide +kernel
  | 1 => decide +kernel
  | 2 => decide +kernel
  | 3 => decide +kernel
  | _ + 4 => exact (by decide +kernel : SeqAt.shaped (.list [.str "last", .bool true, .bool false]) = true ∧ PyData.eqv (.list [.str "last", .bool true, .bool false]) (.list [.str "last", .bool true, .bool false]) = true)
theorem nm_at (j : Nat) (hj : j < 5) : atI [V.str "base", .str "move", .str "add", .str "first", .str "last"] (j : Int) = some (.str (nm j)) := by
  match j, hj with
  | 0, _ => rfl
  | 1, _ => rfl
  | 2, _ => rfl
  | 3, _ => rfl
  | 4, _ => rfl
/-- a new row -/
theorem init_new {K : PySem.W.Frag} {C CE : Addr} {H : Hp} {R : Hp → Prop} {E : XK} {p dx : Addr} {b m a : Int} {f l : Option Int} (A : Args5 b m a f l) (hp : H p = none) (hdx : H dx = none) (ne : dx ≠ p)
    (k : ∀ H', Same H H' → RowAt K C H' p (args5 b m a f l) → R H') : sp_init K C CE [.ref p, .int b, .int m, .int a, intV f, intV l] (upd (upd H dx (.own p)) p (.ins C dx [])) (fun v H2 => v = .non ∧ R H2) E := by
  have s1 := same_new (o := .own p) (Same.refl _) hdx
  have hp1 : (upd H dx (.own p)) p = none := by rw [upd_ne ne.symm]; exact hp
  have s2 := same_new (o := .ins C dx []) (Same.refl _) hp1
  have s12 := s1.trans s2
  refine ⟨p, dx, _, _, _, _, _, some b, some m, some a, f, l, rfl, upd_same, .int _, .int _, .int _, kd_opt f, kd_opt l, And.intro (fun x (hx : badField (some b) (some m) (some a) f l (intV f) (intV l) = some x) => by rw [valid_none A] at hx; cases hx) (fun _ H' sm h => ?_)⟩
  refine ⟨rfl, k H' (fun c o e => ?_) h⟩
  exact sm c o (ne_of_none e hp) (s12 c o e)
theorem base0 {K : PySem.W.Frag} {mg : Str → Option Value} (T : Tx K mg) : ∃ ds, Vals [V.int 1, .int 1, .non, .non] ds ∧ Binds K T.fd_Row_init ["self", "base", "move", "add", "first", "last"] ds :=
  T.F_Row_init.binds0 2 (fun h => nomatch h) rfl fun D doc pm an cdv ct us ks h1 h2 => match us, ks, h1, h2 with
    | [_, _], [_, _, _, _], _, _ => ⟨_, _, _, _, _, _, rfl, rfl, _, _, _, _, _, _, rfl, rfl, _, _, _, _, _, _, rfl, rfl, _, _, _, _, _, _, rfl, rfl, rfl⟩
theorem vals_take {xs : List V} {us : List Value} (r : Vals xs us) (n : Nat) : Vals (xs.take n) (us.take n) := by
  induction r generalizing n with
  | nil => rw [List.take_nil, List.take_nil]; exact .nil
  | cons h _ ih =>
    cases n with
    | zero => exact .nil
    | succ n => exact .cons h (ih n)
theorem vals_drop {xs : List V} {us : List Value} (r : Vals xs us) (n : Nat) : Vals (xs.drop n) (us.drop n) := by
  induction r generalizing n with
  | nil => rw [List.drop_nil, List.drop_nil]; exact .nil
  | cons h t ih =>
    cases n with
    | zero => exact .cons h t
    | succ n => exact ih n
theorem kw1 {K : PySem.W.Frag} {mg : Str → Option Value} (T : Tx K mg) : ∃ mv : List Value, KBn K T.fd_Row_init ["self", "base", "move", "add", "first", "last"] 2 ["add"] (fun us ws => us ++ mv.take 1 ++ ws ++ mv.drop 1) (fun vs zs => vs ++ [V.int 1] ++ zs ++ [V.non, V.non]) :=
  T.F_Row_init.kbinds0 2 ["add"] [("move", .int 1), ("first", .non), ("last", .non)] (fun us mv ws => us ++ mv.take 1 ++ ws ++ mv.drop 1) (by decide)
    (fun q h => by
      simp only [List.mem_cons, List.not_mem_nil, or_false] at h ⊢
      rcases h with rfl | rfl | rfl
      · exact .inl rfl
      · exact .inr (.inr (.inl rfl))
      · exact .inr (.inr (.inr rfl)))
    (fun r1 r2 r3 => ((r1.append (vals_take r2 1)).append r3).append (vals_drop r2 1))
    fun D doc pm an cdv ct us mv ws h1 h2 h3 => match us, mv, ws, h1, h2, h3 with
      | [_, _], [_, _, _], [_], _, _, _ => ⟨_, _, _, _, _, _, rfl, rfl, _, _, _, _, _, _, rfl, rfl, _, _, _, _, _, _, rfl, rfl, rfl⟩
theorem digs_le {ds : List Int} {n k : Nat} (h : Digs ds n) (hk : k ≤ n) : Digs ds k := ⟨Nat.le_trans hk h.1, h.2⟩
theorem ixN_nat {n t : Nat} (h : t < n) : ixN n (t : Int) = some t := by
  unfold ixN
  rw [if_pos (by omega), if_pos (by omega)]
  simp
def sp_law (K : PySem.W.Frag) : Sp := fun vs H Q _ => ∃ (a : Addr) (ns : List Int), vs = [.ref a] ∧ SqL K H a (ns.map V.int) ∧ ns.length ≤ 63 ∧ ∀ H', Q (.bl true) H'
end K01

set_option maxHeartbeats 800000
namespace K01
open PySem L2 GL
theorem ok_law {P : Program} {w : World} {K : PySem.W.Frag} {mg : Str → Option Value} {base : Heap} (T : Tx K mg) : FnG P w K mg base CX0 12 T.f_law T.fd_law ["_law_script"] (sp_law K) := by
  obtain ⟨dvs, DV, BD⟩ := base0 T
  obtain ⟨mv, KB⟩ := kw1 T
  have G_law_numbers := ok_law_numbers (P := P) (w := w) (base := base) T
  have G_law_arguments := ok_law_arguments (P := P) (w := w) (base := base) T
  have G_law_made := ok_law_made (P := P) (w := w) (base := base) T
  have G_law_is_right := ok_law_is_right (P := P) (w := w) (base := base) T
  have G_law_unlike := ok_law_unlike (P := P) (w := w) (base := base) T
  have G_law_odd := ok_law_odd (P := P) (w := w) (base := base) T
  have G_law_error := ok_law_error (P := P) (w := w) (base := base) T
  have G_Row_eq := ok_Row_eq (P := P) (w := w) (base := base) T
  have G_Row_init := ok_Row_init (P := P) (w := w) (base := base) T
  have G_Row_base := ok_Row_base (P := P) (w := w) (base := base) T
  have G_Row_move_cost := ok_Row_move_cost (P := P) (w := w) (base := base) T
  have G_Row_add_cost := ok_Row_add_cost (P := P) (w := w) (base := base) T
  have G_Row_first := ok_Row_first (P := P) (w := w) (base := base) T
  have G_Row_last := ok_Row_last (P := P) (w := w) (base := base) T
  refine (FnG.mk0 T.law.F sc_law (fun vs H Q E h => ?_) (fun cdv A outer s H vs Q E quiet hr h => ?_))
  · obtain ⟨a, ns, rfl, hS, hlen, k⟩ := h
    rfl
  · obtain ⟨a, ns, rfl, hS, hlen, k⟩ := h
    have hu := hu_of hr
    have hu64 := hr.units
    refine ⟨_, (pss_cons (ps_for PassesOwn.never rfl (pi_enum (by rfl) T.b_enumerate (pa_cons (pe_op op_cat (pe_slice sl_list (pv 0) po_none (po_some pe_int)) (pe_op op_rep (pe_lst (pa_cons pe_int pa_nil)) (pe_callTy call_int1 (by rfl) T.b_int (by decide +kernel) (pa_cons (pe_cmpR (op_eqNil hu) (pv 0) (pe_lst pa_nil) (nomark _)) pa_nil)))) pa_nil)) (pg_tup rfl (pgs_cons (pg_name (i := 1) sc_law.nd rfl (Or.inl rfl)) (pgs_cons (pg_name (i := 2) sc_law.nd rfl (Or.inl rfl)) pgs_nil))) (pss_cons (ps_set (i := 3) sc_law.nd rfl (Or.inl rfl) (pe_call G_law_numbers (hr.mono (by decide)) rfl T.law_numbers.g T.law_numbers.F.kp T.law_numbers.b .nil pass0 (pa_cons (pv 2) (pa_cons (pe_op op_add pe_int (pv 1)) (pa_cons (pe_op op_rep (pe_lst (pa_cons pe_int pa_nil)) pe_int) pa_nil)))))
        (pss_cons (ps_set (i := 4) sc_law.nd rfl (Or.inl rfl) (pe_call G_law_arguments (hr.mono (by decide)) rfl T.law_arguments.g T.law_arguments.F.kp T.law_arguments.b .nil pass0 (pa_cons (pv 3) pa_nil)))
        (pss_cons (ps_if (PW.pt (pw_or (pt_not (pt_val (pe_callG G_law_is_right quiet (hr.mono (by decide)) rfl T.law_is_right.g T.law_is_right.F.kp T.law_is_right.b .nil pass0 (pa_cons (pv 4) pa_nil)))) (pw_or1 (pt_not (pt_cmpR (op_insEq G_Row_eq (hr.mono (by decide)) T.m_Row_eq.at_ T.m_Row_eq.fn T.b_Row_eq pass0 (Nat.lt_of_succ_lt hu)) (pe_call G_law_made (hr.mono (by decide)) rfl T.law_made.g T.law_made.F.kp T.law_made.b .nil pass_no (pa_cons (pv 4) pa_nil)) (pe_call G_law_made (hr.mono (by decide)) rfl T.law_made.g T.law_made.F.kp T.law_made.b .nil pass_no (pa_cons (pe_callTy call_list_of (by rfl) T.b_list (by decide +kernel) (pa_cons (pv 4) pa_nil)) pa_nil)) (nomark _)))))) (pss_one (ps_ret pe_bl)) pss_nil)
        (pss_cons (ps_set (i := 5) sc_law.nd rfl (Or.inl rfl) (pe_call G_law_arguments (hr.mono (by decide)) rfl T.law_arguments.g T.law_arguments.F.kp T.law_arguments.b .nil pass0 (pa_cons (pe_slice sl_list (pv 3) (po_some pe_int) po_none) pa_nil)))
        (pss_cons (ps_if (PW.pt (pw_or (pt_cmpR op_ne (pe_cmpR (op_insEq G_Row_eq (hr.mono (by decide)) T.m_Row_eq.at_ T.m_Row_eq.fn T.b_Row_eq pass0 (Nat.lt_of_succ_lt hu)) (pe_call G_law_made (hr.mono (by decide)) rfl T.law_made.g T.law_made.F.kp T.law_made.b .nil pass_no (pa_cons (pv 4) pa_nil)) (pe_call G_law_made (hr.mono (by decide)) rfl T.law_made.g T.law_made.F.kp T.law_made.b .nil pass_no (pa_cons (pv 5) pa_nil)) (nomark _)) (pe_cmpR (op_eqD hu64) (pv 4) (pv 5) (nomark _)) (nomark _)) (pw_or1 (pt_cmpR (op_insEq G_Row_eq (hr.mono (by decide)) T.m_Row_eq.at_ T.m_Row_eq.fn T.b_Row_eq pass0 (Nat.lt_of_succ_lt hu)) (pe_call G_law_made (hr.mono (by decide)) rfl T.law_made.g T.law_made.F.kp T.law_made.b .nil pass_no (pa_cons (pv 4) pa_nil)) (pv 4) (nomark _))))) (pss_one (ps_ret pe_bl)) pss_nil)
        (pss_cons (ps_if (pt_not (pt_val (pe_call G_law_unlike (hr.mono (by decide)) rfl T.law_unlike.g T.law_unlike.F.kp T.law_unlike.b .nil pass0 (pa_cons (pv 4) pa_nil)))) (pss_one (ps_ret pe_bl)) pss_nil)
        (pss_cons (ps_set (i := 6) sc_law.nd rfl (Or.inl rfl) (pe_lst (pa_cons pe_str (pa_cons pe_str (pa_cons pe_str (pa_cons pe_str (pa_cons pe_str pa_nil)))))))
        (pss_cons (ps_for PassesOwn.never rfl (pi_range1 rfl T.b_range (pa_cons pe_int pa_nil)) (pg_name (i := 7) sc_law.nd rfl (Or.inl rfl)) (pss_cons (ps_set (i := 8) sc_law.nd rfl (Or.inl rfl) (pe_op op_add (pv 7) (pe_op op_mod (pe_ix ix_list (pv 3) pe_int (fun _ _ => rfl)) (pe_op op_sub pe_int (pv 7)))))
        (pss_cons (ps_set (i := 9) sc_law.nd rfl (Or.inl rfl) (pe_callTy call_list_of (by rfl) T.b_list (by decide +kernel) (pa_cons (pv 4) pa_nil)))
        (pss_cons (ps_asg (pe_call G_law_odd (hr.mono (by decide)) rfl T.law_odd.g T.law_odd.F.kp T.law_odd.b .nil pass0 (pa_cons (pe_slice sl_list (pv 3) (po_some pe_int) po_none) (pa_cons (pv 8) pa_nil))) (pg_sub (pv 9) (pv 8) set_list (fun _ => rfl)))
        (pss_cons (ps_asg (pe_call G_law_odd (hr.mono (by decide)) rfl T.law_odd.g T.law_odd.F.kp T.law_odd.b .nil pass0 (pa_cons (pe_slice sl_list (pv 3) (po_some pe_int) po_none) (pa_cons (pv 7) pa_nil))) (pg_sub (pv 9) (pv 7) set_list (fun _ => rfl)))
        (pss_one (ps_if (pt_cmpR (op_neD hu64) (pe_call G_law_error (hr.mono (by decide)) rfl T.law_error.g T.law_error.F.kp T.law_error.b .nil pass0 (pa_cons (pv 9) pa_nil)) (pe_lst (pa_cons (pe_ix ix_list (pv 6) (pv 7) (fun _ _ => rfl)) (pa_cons pe_bl (pa_cons pe_bl pa_nil)))) (nomark _)) (pss_one (ps_ret pe_bl)) pss_nil)))))))
        (pss_cons (ps_set (i := 10) sc_law.nd rfl (Or.inl rfl) (pe_op op_mod (pe_ix ix_list (pv 3) pe_int (fun _ _ => rfl)) pe_int))
        (pss_cons (ps_if (pt_cmpR (op_neD hu64) (pe_call G_law_error (hr.mono (by decide)) rfl T.law_error.g T.law_error.F.kp T.law_error.b .nil pass0 (pa_cons (pe_op op_cat (pe_slice sl_list (pv 4) po_none (po_some pe_int)) (pe_lst (pa_cons (pv 10) (pa_cons (pe_op op_sub (pe_op op_sub (pv 10) pe_int) (pe_op op_mod (pe_ix ix_list (pv 3) pe_int (fun _ _ => rfl)) pe_int)) pa_nil)))) pa_nil)) (pe_lst (pa_cons pe_str (pa_cons pe_bl (pa_cons pe_bl pa_nil)))) (nomark _)) (pss_one (ps_ret pe_bl)) pss_nil)
        (pss_one (ps_if (pt_cmpR op_notN (pe_call G_law_error (hr.mono (by decide)) rfl T.law_error.g T.law_error.F.kp T.law_error.b .nil pass0 (pa_cons (pe_op op_cat (pe_slice sl_list (pv 4) po_none (po_some pe_int)) (pe_lst (pa_cons (pv 10) (pa_cons (pv 10) pa_nil)))) pa_nil)) pe_non (nomark _)) (pss_one (ps_ret pe_bl)) pss_nil)))))))))))))
        (pss_cons (ps_set (i := 11) sc_law.nd rfl (Or.inl rfl) (pe_make T.mkR G_Row_init (hr.mono (by decide)) rfl T.g_Row BD DV pass_no (pa_cons pe_int pa_nil)))
        (pss_cons (ps_set (i := 12) sc_law.nd rfl (Or.inl rfl) (pe_lst (pa_cons (pe_prop (pv 11) T.cl T.p_Row_base G_Row_base (hr.mono (by decide)) T.b_Row_base .nil pass0 rfl) (pa_cons (pe_prop (pv 11) T.cl T.p_Row_move_cost G_Row_move_cost (hr.mono (by decide)) T.b_Row_move_cost .nil pass0 rfl) (pa_cons (pe_prop (pv 11) T.cl T.p_Row_add_cost G_Row_add_cost (hr.mono (by decide)) T.b_Row_add_cost .nil pass0 rfl) (pa_cons (pe_prop (pv 11) T.cl T.p_Row_first G_Row_first (hr.mono (by decide)) T.b_Row_first .nil pass0 rfl) (pa_cons (pe_prop (pv 11) T.cl T.p_Row_last G_Row_last (hr.mono (by decide)) T.b_Row_last .nil pass0 rfl) (pa_cons (ClX.pe_cval (pe_glob (v := .ref T.C_Row) rfl T.g_Row rfl)) (pa_cons (ClX.pe_cval (pe_glob (v := .ref T.C_Row) rfl T.g_Row rfl)) pa_nil)))))))))
        (pss_one (ps_ret (pe_and (pe_cmpR (op_eqD hu64) (pv 12) (pe_lst (pa_cons pe_int (pa_cons pe_int (pa_cons pe_int (pa_cons pe_non (pa_cons pe_non (pa_cons pe_int (pa_cons pe_int pa_nil)))))))) (nomark _)) (pe_one (pe_cmpR (op_insEq G_Row_eq (hr.mono (by decide)) T.m_Row_eq.at_ T.m_Row_eq.fn T.b_Row_eq pass0 (Nat.lt_of_succ_lt hu)) (pv 11) (pe_makeK T.mkR G_Row_init (hr.mono (by decide)) rfl T.g_Row KB pass_no (pa_cons pe_int pa_nil) (pk_cons pe_int pk_nil)) (nomark _))))))))), ?_⟩
    refine ⟨_, rfl, _, rfl, a, ns.map V.int, rfl, hS, fun p1 hp1 => ?_⟩
    obtain ⟨zs, ez, lz⟩ := cut_some ns none (some 10)
    have st1 := same_new (o := .lst (cutV (ns.map V.int) none (some 10))) (Same.refl _) hp1
    refine ⟨(by show 1 ≤ sizeLine; decide), fun p2 hp2 => ?_⟩
    have st2 := same_new (o := .lst [.int 7]) (Same.refl _) hp2
    refine ⟨_, rfl, (by show 0 ≤ sizeLine; decide), fun p3 hp3 => ?_⟩
    have st3 := same_new (o := .lst []) (Same.refl _) hp3
    have s3 := st1.trans (st2.trans st3)
    refine ⟨a, p3, _, rfl, rfl, s3.seq hS, SqL.of upd_same, .inr ⟨_, rfl, ?_⟩⟩
    generalize hkk : (if (ns.map V.int).isEmpty = true then (1 : Int) else 0) = kk
    have kk0 : 0 ≤ kk ∧ kk ≤ 1 := by rw [← hkk]; split <;> omega
    refine ⟨p2, kk, _, rfl, rfl, st3 p2 _ upd_same, by omega, by omega, ?_, fun p4 hp4 => ?_⟩
    · show 1 * kk.toNat ≤ sizeLine
      have : kk.toNat ≤ 1 := by omega
      exact Nat.le_trans (by omega : 1 * kk.toNat ≤ 1) (by decide)
    have er : (List.replicate kk.toNat [V.int 7]).flatten = (List.replicate kk.toNat (7 : Int)).map V.int := by
      rcases (by omega : kk = 0 ∨ kk = 1) with z | z <;> subst z <;> rfl
    have st4 := same_new (o := .lst (List.replicate kk.toNat [V.int 7]).flatten) (Same.refl _) hp4
    have le4 : (cutV (ns.map V.int) none (some 10)).length + ((List.replicate kk.toNat [V.int 7]).flatten).length ≤ 100 := by
      rw [ez, er, List.length_map, List.length_map, List.length_replicate]
      omega
    refine ⟨p1, p4, _, _, rfl, rfl, (st2.trans (st3.trans st4)) p1 _ upd_same, upd_same, Nat.le_trans le4 (by decide), fun p5 hp5 => ?_⟩
    have st5 := same_new (o := .lst (cutV (ns.map V.int) none (some 10) ++ (List.replicate kk.toNat [V.int 7]).flatten)) (Same.refl _) hp5
    have s5 := s3.trans (st4.trans st5)
    have ecells : cutV (ns.map V.int) none (some 10) ++ (List.replicate kk.toNat [V.int 7]).flatten = (zs ++ List.replicate kk.toNat (7 : Int)).map V.int := by rw [ez, er, List.map_append]
    have lcells : (zs ++ List.replicate kk.toNat (7 : Int)).length ≤ 100 := by rw [List.length_append, List.length_replicate]; omega
    generalize zs ++ List.replicate kk.toNat (7 : Int) = cells at ecells lcells
    refine ⟨p5, _, rfl, SqL.of upd_same, ?_⟩
    rw [ecells] at st5 s5 ⊢
    refine for_it (walk_enum (K := K) (a := p5) (xs := cells.map V.int)) (fun i σ H' => Same H H' ∧ SqL K H' p5 (cells.map V.int) ∧ ∃ v1 v2 v3 v4 v5 v6 v7 v8 v9 v10 v11 v12, σ = [some (.ref a), v1, v2, v3, v4, v5, v6, v7, v8, v9, v10, v11, v12]) ?_ ?_ ?_ ?_
    · exact ⟨s5, SqL.of upd_same, _, _, _, _, _, _, _, _, _, _, _, _, rfl⟩
    · rintro i σ H' _ ⟨_, h, _⟩
      exact h
    · rintro i x σ H0 H' hi ⟨sm0, hq0, v1, v2, v3, v4, v5, v6, v7, v8, v9, v10, v11, v12, rfl⟩ ⟨tt, k0, c0, rfl, htt, rfl, ek, ec⟩
      cases ek
      rw [List.length_map] at hi
      have hi' : i ≤ 100 := by omega
      obtain ⟨cell, hc⟩ : ∃ z, cells[i]? = some z := ⟨_, List.getElem?_eq_getElem hi⟩
      have ec' : (cells.map V.int)[i]? = some c0 := ec
      rw [List.getElem?_map, hc] at ec'
      cases ec'
      have t1 := same_new (o := .tup [.int (i : Nat), .int cell]) (Same.refl _) htt
      refine ⟨tt, _, rfl, SqT.of upd_same, rfl, _, _, rfl, _, _, rfl, rfl, ?_⟩
      -- the digits
      refine ⟨_, rfl, _, rfl, _, _, rfl, rfl, (by show 1 ≤ sizeLine; decide), fun q1 hq1 => ?_⟩
      have t2 := same_new (o := .lst [.int 420]) (Same.refl _) hq1
      refine ⟨q1, 16, _, rfl, rfl, upd_same, by decide, by decide, (by show 16 ≤ sizeLine; decide), fun q2 hq2 => ?_⟩
      have t3 := same_new (o := .lst ((List.replicate 16 (420 : Int)).map V.int)) (Same.refl _) hq2
      refine ⟨cell, 100 + (i : Int), q2, List.replicate 16 420, rfl, by omega, by omega, SqL.of upd_same, by decide, (fun z hz => by have := List.eq_of_mem_replicate hz; omega), fun H1 q3 ds r1 nq3 hds hlen bl => ?_⟩
      have D := digs_of (n := 16) (by rw [hlen, List.length_replicate]) bl
      have len16 : ds.length = 16 := by rw [hlen, List.length_replicate]
      have c1 := t1.trans (t2.trans (t3.trans r1))
      have SD : SqL K H1 q3 (ds.map V.int) := SqL.of hds
      -- some
      refine ⟨_, rfl, q3, ds, rfl, SD, digs_le D (by decide), fun H2 q4 b m a' f l r2 nq4 hsome A => ?_⟩
      have SS : SqL K H2 q4 (args5 b m a' f l) := SqL.of hsome
      -- is right, equal to itself
      refine ⟨_, rfl, q4, b, m, a', f, l, rfl, SS, A, fun H3 r3 => ?_⟩
      refine ⟨_, rfl, ?_⟩
      refine iteF ?_
      have SS3 := r3.seq SS
      refine ⟨_, rfl, made_ok A SS3 fun H4 w1 y1 hw1 R1 => ?_⟩
      refine ⟨_, rfl, q4, _, rfl, .inl (y1.seq SS3), fun q5 hq5 => ?_⟩
      have t4 := same_new (o := .lst (args5 b m a' f l)) (Same.refl _) hq5
      refine made_ok A (SqL.of upd_same) fun H5 w2 y2 hw2 R2 => ?_
      have R1' := rowAt_same (t4.trans y2) R1
      obtain ⟨dx, tb, g1, g2⟩ := id R1'.ob
      obtain ⟨dx2, tb2, g3, g4⟩ := id R2.ob
      refine ⟨w1, dx, _, _, rfl, g1, T.ty g3, T.x_nfRow, w1, _, _, _, _, _, .ref w2, rfl, R1', .inl ⟨w2, _, _, _, _, _, rfl, R2, ?_⟩⟩
      refine ⟨_, rfl, ?_⟩
      have eqself : eq5 b m a' f l b m a' f l = true := by rw [eq5_eq]; simp
      rw [eqself]
      refine iteF ?_
      have c5 := y1.trans (t4.trans y2)
      have SS5 := c5.seq SS3
      have SD5 : SqL K H5 q3 (ds.map V.int) := (r2.trans (r3.trans c5)).seq SD
      -- the other
      refine ⟨_, rfl, _, rfl, q3, _, rfl, SD5, fun q6 hq6 => ?_⟩
      rw [show cutV (ds.map V.int) (some 5) none = (ds.drop 5).map V.int from cut_from ds 5 (by omega)]
      have t5 := same_new (o := .lst ((ds.drop 5).map V.int)) (Same.refl _) hq6
      refine ⟨q6, ds.drop 5, rfl, SqL.of upd_same, digs_drop D 5 5 (by decide), fun H6 q7 b2 m2 a2 f2 l2 r6 nq7 hoth A2 => ?_⟩
      have SO : SqL K H6 q7 (args5 b2 m2 a2 f2 l2) := SqL.of hoth
      have SS6 := (t5.trans r6).seq SS5
      refine ⟨_, rfl, made_ok A SS6 fun H7 w3 y3 hw3 R3 => ?_⟩
      refine ⟨_, rfl, made_ok A2 (y3.seq SO) fun H8 w4 y4 hw4 R4 => ?_⟩
      have R3' := rowAt_same y4 R3
      obtain ⟨dx3, tb3, g5, g6⟩ := id R3'.ob
      obtain ⟨dx4, tb4, g7, g8⟩ := id R4.ob
      refine ⟨w3, dx3, _, _, rfl, g5, T.ty g7, T.x_nfRow, w3, _, _, _, _, _, .ref w4, rfl, R3', .inl ⟨w4, _, _, _, _, _, rfl, R4, ?_⟩⟩
      have c8 := y3.trans y4
      refine ⟨_, rfl, _, rfl, _, _, .lst (c8.seq SS6) (args_dp _ _ _ _ _), .lst (c8.seq SO) (args_dp _ _ _ _ _), shaped_lst _ _ _ _ _, shaped_lst _ _ _ _ _, ?_⟩
      rw [eqv_lst]
      refine ⟨rfl, _, rfl, ?_⟩
      refine ifNn rfl ?_
      refine ⟨_, rfl, made_ok A (c8.seq SS6) fun H9 w5 y5 hw5 R5 => ?_⟩
      obtain ⟨dx5, tb5, g9, g10⟩ := id R5.ob
      refine ⟨_, rfl, w5, dx5, _, _, rfl, g9, tyx_lst ((c8.trans y5).seq SS6), T.x_nfList, w5, _, _, _, _, _, .ref q4, rfl, R5, .inr ⟨q4, _, rfl, (c8.trans y5).seq SS6, ?_⟩⟩
      refine ⟨_, rfl, ?_⟩
      refine iteF ?_
      have SS9 := (c8.trans y5).seq SS6
      -- unlike
      refine ⟨_, rfl, q4, b, m, a', f, l, rfl, SS9, A, fun H10 r10 => ?_⟩
      refine ⟨_, rfl, ?_⟩
      refine iteF ?_
      have c10 := c5.trans (t5.trans (r6.trans (c8.trans (y5.trans r10))))
      have SS10 := c10.seq SS3
      have SD10 : SqL K H10 q3 (ds.map V.int) := (r2.trans (r3.trans c10)).seq SD
      -- the names
      refine ⟨(by show 5 ≤ sizeLine; decide), fun q8 hq8 => ?_⟩
      have t6 := same_new (o := .lst [V.str "base", .str "move", .str "add", .str "first", .str "last"]) (Same.refl _) hq8
      have SN : SqL K (upd H10 q8 (.lst [V.str "base", .str "move", .str "add", .str "first", .str "last"])) q8 [V.str "base", .str "move", .str "add", .str "first", .str "last"] := SqL.of upd_same
      generalize upd H10 q8 (.lst [V.str "base", .str "move", .str "add", .str "first", .str "last"]) = HN at *
      have SDN := t6.seq SD10
      have SSN := t6.seq SS10
      obtain ⟨d10, at10, l10, u10⟩ := digs_at D 10 (by decide)
      obtain ⟨d13, at13, l13, u13⟩ := digs_at D 13 (by decide)
      obtain ⟨d14, at14, l14, u14⟩ := digs_at D 14 (by decide)
      refine ⟨5, rfl, by decide, by decide, ?_⟩
      refine for_range (lo := 0) (n := 5) (fun j σ H' => Same HN H' ∧ ∃ v7 v8 v9, σ = [some (.ref a), some (.int (i : Nat)), some (.int cell), some (.ref q3), some (.ref q4), some (.ref q7), some (.ref q8), v7, v8, v9, v10, v11, v12]) ?_ ?_ ?_
      · exact ⟨Same.refl _, _, _, _, rfl⟩
      · rintro j σ HJ hj ⟨s, v7, v8, v9, rfl⟩
        rw [Int.zero_add]
        refine ⟨_, rfl, _, rfl, q3, _, _, _, rfl, rfl, s.seq SDN, at10, _, rfl, _, _, rfl, rfl, _, _, rfl, rfl, (by show (0 : Int) < 5 - (j : Int); omega), _, _, rfl, rfl, ?_⟩
        obtain ⟨t, et, hjt, ht⟩ : ∃ t : Nat, (j : Int) + d10 % (5 - (j : Int)) = (t : Int) ∧ j ≤ t ∧ t < 5 := by
          have h1 := Int.emod_nonneg d10 (show (5 - (j : Int)) ≠ 0 by omega)
          have h2 := Int.emod_lt_of_pos d10 (show (0 : Int) < 5 - (j : Int) by omega)
          refine ⟨((j : Int) + d10 % (5 - (j : Int))).toNat, ?_, ?_, ?_⟩ <;> omega
        show gName 8 (V.int ((j : Int) + d10 % (5 - (j : Int)))) _ _ _
        rw [et]
        refine ⟨_, rfl, q4, _, rfl, .inl (s.seq SSN), fun q9 hq9 => ?_⟩
        have z1 := same_new (o := .lst (args5 b m a' f l)) (Same.refl _) hq9
        refine ⟨_, rfl, _, rfl, q3, _, rfl, (s.trans z1).seq SDN, fun q10 hq10 => ?_⟩
        rw [show cutV (ds.map V.int) (some 12) none = (ds.drop 12).map V.int from cut_from ds 12 (by omega)]
        have z2 := same_new (o := .lst ((ds.drop 12).map V.int)) (Same.refl _) hq10
        refine ⟨_, rfl, q10, ds.drop 12, (t : Int), rfl, SqL.of upd_same, digs_drop D 12 1 (by decide), by omega, by omega, fun HX v1 o1 e1 kd1 bad1 => ?_⟩
        have hx9 := e1 q9 _ (z2 q9 _ upd_same)
        refine ⟨_, rfl, _, rfl, q9, _, (t : Int), t, rfl, rfl, hx9, ixN_nat ht, ?_⟩
        have kd1' := kd_set (ys := (args5 b m a' f l).set t v1) hx9 kd1
        have y1' := same_new (o := .lst ((args5 b m a' f l).set t v1)) (z1.trans (z2.trans e1)) hq9
        refine ⟨_, rfl, _, rfl, q3, _, rfl, (s.trans y1').seq SDN, fun q11 hq11 => ?_⟩
        rw [show cutV (ds.map V.int) (some 11) none = (ds.drop 11).map V.int from cut_from ds 11 (by omega)]
        have z3 := same_new (o := .lst ((ds.drop 11).map V.int)) (Same.refl _) hq11
        refine ⟨_, rfl, q11, ds.drop 11, (j : Int), rfl, SqL.of upd_same, digs_drop D 11 1 (by decide), by omega, by omega, fun HY v2 o2 e2 kd2 bad2 => ?_⟩
        have hy9 := e2 q9 _ (z3 q9 _ upd_same)
        refine ⟨_, rfl, _, rfl, q9, _, (j : Int), j, rfl, rfl, hy9, (by rw [List.length_set]; exact ixN_nat hj), ?_⟩
        have kd2' := kd_set (ys := ((args5 b m a' f l).set t v1).set j v2) hy9 kd2
        have kd1'' := kd_set (ys := ((args5 b m a' f l).set t v1).set j v2) hy9 (kd_same (z3.trans e2) kd1')
        have y2' := same_new (o := .lst (((args5 b m a' f l).set t v1).set j v2)) (y1'.trans (z3.trans e2)) hq9
        refine ⟨_, rfl, ?_⟩
        obtain ⟨vb, vm, va, vf, vl, ob, om, oa, of, ol, exs, n1, n2, n3, n4, n5, hb⟩ := bad_first A hjt ht kd1'' kd2' bad2
        refine ⟨q9, vb, vm, va, vf, vl, ob, om, oa, of, ol, rfl, SqL.of (by rw [upd_same, exs]), n1, n2, n3, n4, n5, And.intro (fun x hx HE pe se hpe => ?_) (fun hn => by rw [hb] at hn; cases hn)⟩
        have ex := (Option.some.inj (hx.symm.trans hb))
        subst ex
        have hat := nm_at j hj
        have sE := s.trans (y2'.trans se)
        refine ⟨_, rfl, _, rfl, q8, _, _, _, rfl, rfl, sE.seq SN, hat, (by show 3 ≤ sizeLine; decide), fun q12 hq12 => ?_⟩
        have z4 := same_new (o := .lst [V.str (nm j), .bl true, .bl false]) (Same.refl _) hq12
        refine ⟨.list [.str (nm j), .bool true, .bool false], .list [.str (nm j), .bool true, .bool false], .lst (SqL.of (z4 pe _ hpe)) (.cons (.str _) (.cons (.bl _) (.cons (.bl _) .nil))), .lst (SqL.of upd_same) (.cons (.str _) (.cons (.bl _) (.cons (.bl _) .nil))), (nm_lay j).1, (nm_lay j).1, ?_⟩
        rw [(nm_lay j).2]
        refine ⟨_, rfl, ?_⟩
        refine iteF ?_
        exact ⟨sE.trans z4, _, _, _, rfl⟩
      rintro σ HM ⟨s, v7, v8, v9, rfl⟩
      -- far
      refine ⟨_, rfl, q3, _, _, _, rfl, rfl, s.seq SDN, at13, _, _, rfl, rfl, (by show (0 : Int) < 30; decide), ?_⟩
      have hfar : 0 ≤ d13 % 30 ∧ d13 % 30 < 30 := by omega
      show gName 10 (V.int (d13 % 30)) _ _ _
      generalize d13 % 30 = far at hfar ⊢
      refine ⟨_, rfl, _, rfl, q4, _, rfl, s.seq SSN, fun g1 hg1 => ?_⟩
      have x1 := same_new (o := .lst [V.int b, .int m, .int a']) (Same.refl _) hg1
      refine ⟨_, rfl, _, rfl, _, _, rfl, rfl, _, rfl, q3, _, _, _, rfl, rfl, (s.trans x1).seq SDN, at14, _, _, rfl, rfl, (by show (0 : Int) < 9; decide), _, _, rfl, rfl, (by show 2 ≤ sizeLine; decide), fun g2 hg2 => ?_⟩
      have hnear : far - 1 - d14 % 9 < far ∧ -20 ≤ far - 1 - d14 % 9 := by omega
      have x2 := same_new (o := .lst [V.int far, .int (far - 1 - d14 % 9)]) (Same.refl _) hg2
      refine ⟨g1, g2, [V.int b, .int m, .int a'], _, rfl, rfl, x2 g1 _ upd_same, upd_same, (by show 5 ≤ sizeLine; decide), fun g3 hg3 => ?_⟩
      have x3 := same_new (o := .lst [V.int b, .int m, .int a', .int far, .int (far - 1 - d14 % 9)]) (Same.refl _) hg3
      obtain ⟨vb, vm, va, vf, vl, ob, om, oa, of, ol, exs, n1, n2, n3, n4, n5, hb⟩ := bad_far A hfar hnear
      refine ⟨g3, vb, vm, va, vf, vl, ob, om, oa, of, ol, rfl, SqL.of (by rw [upd_same, ← exs]; rfl), n1, n2, n3, n4, n5, And.intro (fun x hx HE pe se hpe => ?_) (fun hn => by rw [hb] at hn; cases hn)⟩
      have ex := (Option.some.inj (hx.symm.trans hb))
      subst ex
      refine ⟨(by show 3 ≤ sizeLine; decide), fun g4 hg4 => ?_⟩
      have x4 := same_new (o := .lst [V.str "last", .bl true, .bl false]) (Same.refl _) hg4
      refine ⟨.list [.str (nm 4), .bool true, .bool false], .list [.str (nm 4), .bool true, .bool false], .lst (SqL.of (x4 pe _ hpe)) (.cons (.str _) (.cons (.bl _) (.cons (.bl _) .nil))), .lst (xs := [V.str (nm 4), .bl true, .bl false]) (SqL.of upd_same) (.cons (.str _) (.cons (.bl _) (.cons (.bl _) .nil))), (nm_lay 4).1, (nm_lay 4).1, ?_⟩
      rw [(nm_lay 4).2]
      refine ⟨_, rfl, ?_⟩
      refine iteF ?_
      have s4 := s.trans (x1.trans (x2.trans (x3.trans (se.trans x4))))
      refine ⟨_, rfl, _, rfl, q4, _, rfl, s4.seq SSN, fun g5 hg5 => ?_⟩
      have x5 := same_new (o := .lst [V.int b, .int m, .int a']) (Same.refl _) hg5
      refine ⟨_, rfl, _, rfl, (by show 2 ≤ sizeLine; decide), fun g6 hg6 => ?_⟩
      have x6 := same_new (o := .lst [V.int far, .int far]) (Same.refl _) hg6
      refine ⟨g5, g6, [V.int b, .int m, .int a'], _, rfl, rfl, x6 g5 _ upd_same, upd_same, (by show 5 ≤ sizeLine; decide), fun g7 hg7 => ?_⟩
      have x7 := same_new (o := .lst (args5 b m a' (some far) (some far))) (Same.refl _) hg7
      have AF : Args5 b m a' (some far) (some far) := ⟨A.hb, A.hm, A.ha, (show -1000 ≤ far ∧ far ≤ 1000 by omega), (show -1000 ≤ far ∧ far ≤ 1000 by omega), fun x y e1 e2 => by cases e1; cases e2; exact Int.le_refl _⟩
      refine ⟨g7, _, _, _, _, _, some b, some m, some a', some far, some far, rfl, SqL.of upd_same, .int _, .int _, .int _, .int _, .int _, And.intro (fun x (hx : badField (some b) (some m) (some a') (some far) (some far) (intV (some far)) (intV (some far)) = some x) => by rw [valid_none AF] at hx; cases hx) (fun _ HF sf => ?_)⟩
      refine ⟨rfl, _, rfl, ?_⟩
      refine ifNn rfl ?_
      have fin := sm0.trans (c1.trans (r2.trans (r3.trans (c10.trans (t6.trans (s4.trans (x5.trans (x6.trans (x7.trans sf)))))))))
      exact ⟨fin, ((c1.trans (r2.trans (r3.trans (c10.trans (t6.trans (s4.trans (x5.trans (x6.trans (x7.trans sf))))))))).seq hq0), _, _, _, _, _, _, _, _, _, _, _, _, rfl⟩
    · rintro σ H' ⟨_, _, v1, v2, v3, v4, v5, v6, v7, v8, v9, v10, v11, v12, rfl⟩
      have A7 : Args5 7 1 1 none none := ⟨by decide, by decide, by decide, trivial, trivial, fun i j z => nomatch z⟩
      intro p dx hp hdx ne
      refine init_new A7 hp hdx ne fun H1 s1 R1 => ?_
      obtain ⟨dx1, t1, h1, h2⟩ := id R1.ob
      refine ⟨_, rfl, p, dx1, _, rfl, h1, p, .int 7, .int 1, .int 1, .non, .non, rfl, R1, _, rfl, p, dx1, _, rfl, h1, p, .int 7, .int 1, .int 1, .non, .non, rfl, R1, _, rfl, p, dx1, _, rfl, h1, p, .int 7, .int 1, .int 1, .non, .non, rfl, R1, _, rfl, p, dx1, _, rfl, h1, p, .int 7, .int 1, .int 1, .non, .non, rfl, R1, _, rfl, p, dx1, _, rfl, h1, p, .int 7, .int 1, .int 1, .non, .non, rfl, R1, _, _, _, _, rfl, T.rd, T.v_MIN_BASE, _, _, _, _, rfl, T.rd, T.v_MAX_BASE, (by show 7 ≤ sizeLine; decide), fun q hq => ?_⟩
      have z1 := same_new (o := .lst [V.int 7, .int 1, .int 1, .non, .non, .int 2, .int 36]) (Same.refl _) hq
      refine ⟨_, rfl, (by show 7 ≤ sizeLine; decide), fun q2 hq2 => ?_⟩
      have z2 := same_new (o := .lst [V.int 7, .int 1, .int 1, .non, .non, .int 2, .int 36]) (Same.refl _) hq2
      have dl : ∀ {H : Hp} {q : Addr}, H q = some (.lst [V.int 7, .int 1, .int 1, .non, .non, .int 2, .int 36]) → Dp K H (.ref q) (.list [.int 7, .int 1, .int 1, .none, .none, .int 2, .int 36]) := fun h =>
        .lst (SqL.of h) (.cons (.int _) (.cons (.int _) (.cons (.int _) (.cons .non (.cons .non (.cons (.int _) (.cons (.int _) .nil)))))))
      refine ⟨_, _, dl (z2 q _ upd_same), dl upd_same, by decide +kernel, by decide +kernel, ?_⟩
      rw [show PyData.eqv (.list [.int 7, .int 1, .int 1, .none, .none, .int 2, .int 36]) (.list [.int 7, .int 1, .int 1, .none, .none, .int 2, .int 36]) = true by decide +kernel]
      refine ⟨_, rfl, ?_⟩
      refine iteT ?_
      refine ⟨_, rfl, rfl, rfl, fun p2 dx2 hp2 hdx2 ne2 => ?_⟩
      refine init_new A7 hp2 hdx2 ne2 fun H2 s2 R2 => ?_
      have R1' := rowAt_same ((z1.trans z2).trans s2) R1
      obtain ⟨dx3, t3, h3, h4⟩ := id R1'.ob
      obtain ⟨dx4, t4, h5, h6⟩ := id R2.ob
      refine ⟨p, dx3, _, _, rfl, h3, T.ty h5, T.x_nfRow, p, _, _, _, _, _, .ref p2, rfl, R1', .inl ⟨p2, _, _, _, _, _, rfl, R2, ?_⟩⟩
      rw [eq5_eq]
      exact k _

end K01

namespace K01
open PySem L2 GL
theorem all_mk {l : PySem.W.OpenLaw} {w : World} {fa : Addr} {K : PySem.W.Frag} {h : Heap} {mg : Str → Option Value} (X : K.In h) (G : h.Ns mainGlobals mg) (hfa : mg "law" = some (.ref fa))
  {f_is_whole : Addr} {od_is_whole an_is_whole : Option Addr} {sl_is_whole : Array (Option Value)} {oc_is_whole kV_is_whole dc_is_whole pm_is_whole cd_is_whole ct_is_whole : Value}
  {f_is_within : Addr} {od_is_within an_is_within : Option Addr} {sl_is_within : Array (Option Value)} {oc_is_within kV_is_within dc_is_within pm_is_within cd_is_within ct_is_within : Value}
  {f_is_place : Addr} {od_is_place an_is_place : Option Addr} {sl_is_place : Array (Option Value)} {oc_is_place kV_is_place dc_is_place pm_is_place cd_is_place ct_is_place : Value}
  {f_invalid_field : Addr} {od_invalid_field an_invalid_field : Option Addr} {sl_invalid_field : Array (Option Value)} {oc_invalid_field kV_invalid_field dc_invalid_field pm_invalid_field cd_invalid_field ct_invalid_field : Value}
  {f_is_cost : Addr} {od_is_cost an_is_cost : Option Addr} {sl_is_cost : Array (Option Value)} {oc_is_cost kV_is_cost dc_is_cost pm_is_cost cd_is_cost ct_is_cost : Value}
  {f_is_end : Addr} {od_is_end an_is_end : Option Addr} {sl_is_end : Array (Option Value)} {oc_is_end kV_is_end dc_is_end pm_is_end cd_is_end ct_is_end : Value}
  {f_law_numbers : Addr} {od_law_numbers an_law_numbers : Option Addr} {sl_law_numbers : Array (Option Value)} {oc_law_numbers kV_law_numbers dc_law_numbers pm_law_numbers cd_law_numbers ct_law_numbers : Value}
  {f_law_end : Addr} {od_law_end an_law_end : Option Addr} {sl_law_end : Array (Option Value)} {oc_law_end kV_law_end dc_law_end pm_law_end cd_law_end ct_law_end : Value}
  {f_law_arguments : Addr} {od_law_arguments an_law_arguments : Option Addr} {sl_law_arguments : Array (Option Value)} {oc_law_arguments kV_law_arguments dc_law_arguments pm_law_arguments cd_law_arguments ct_law_arguments : Value}
  {f_law_made : Addr} {od_law_made an_law_made : Option Addr} {sl_law_made : Array (Option Value)} {oc_law_made kV_law_made dc_law_made pm_law_made cd_law_made ct_law_made : Value}
  {f_law_error : Addr} {od_law_error an_law_error : Option Addr} {sl_law_error : Array (Option Value)} {oc_law_error kV_law_error dc_law_error pm_law_error cd_law_error ct_law_error : Value}
  {f_law_odd : Addr} {od_law_odd an_law_odd : Option Addr} {sl_law_odd : Array (Option Value)} {oc_law_odd kV_law_odd dc_law_odd pm_law_odd cd_law_odd ct_law_odd : Value}
  {f_law_has : Addr} {od_law_has an_law_has : Option Addr} {sl_law_has : Array (Option Value)} {oc_law_has kV_law_has dc_law_has pm_law_has cd_law_has ct_law_has : Value}
  {f_law_is_right : Addr} {od_law_is_right an_law_is_right : Option Addr} {sl_law_is_right : Array (Option Value)} {oc_law_is_right kV_law_is_right dc_law_is_right pm_law_is_right cd_law_is_right ct_law_is_right : Value}
  {f_law_unlike : Addr} {od_law_unlike an_law_unlike : Option Addr} {sl_law_unlike : Array (Option Value)} {oc_law_unlike kV_law_unlike dc_law_unlike pm_law_unlike cd_law_unlike ct_law_unlike : Value}
  {f_law : Addr} {od_law an_law : Option Addr} {sl_law : Array (Option Value)} {oc_law kV_law dc_law pm_law cd_law ct_law : Value}
  {C_InvalidRow I_InvalidRow N_InvalidRow : Addr} {nm_InvalidRow q_InvalidRow : Str} {bs_InvalidRow bm_InvalidRow sub_InvalidRow : List Value} {sn_InvalidRow : List Str} {ab_InvalidRow : Bool} {col_InvalidRow : Option Bool} {dd_InvalidRow : Option Addr} {m0_InvalidRow m1_InvalidRow m2_InvalidRow m3_InvalidRow m5_InvalidRow : Option Value}
  {od_InvalidRow an_InvalidRow : Option Addr} {sl_InvalidRow : Array (Option Value)} {oc_InvalidRow dc_InvalidRow pm_InvalidRow cd_InvalidRow cv_InvalidRow : Value}
  {C_HeadError : Addr}
  {C_InvalidNumber : Addr}
  {t_MAX_PLACE : Tok}
  {t_MAX_COST : Tok}
  {C_Row : Addr}
  {f_Row_init D_Row_init : Addr} {od_Row_init an_Row_init : Option Addr} {sl_Row_init : Array (Option Value)} {oc_Row_init dc_Row_init pm_Row_init cd_Row_init ct_Row_init : Value}
  {tk0_Row_init : Tok}
  {tk1_Row_init : Tok}
  {f_Row_base : Addr} {od_Row_base an_Row_base : Option Addr} {sl_Row_base : Array (Option Value)} {oc_Row_base kV_Row_base dc_Row_base pm_Row_base cd_Row_base ct_Row_base : Value}
  {p_Row_base : Addr} {rest_Row_base : List Value}
  {f_Row_move_cost : Addr} {od_Row_move_cost an_Row_move_cost : Option Addr} {sl_Row_move_cost : Array (Option Value)} {oc_Row_move_cost kV_Row_move_cost dc_Row_move_cost pm_Row_move_cost cd_Row_move_cost ct_Row_move_cost : Value}
  {p_Row_move_cost : Addr} {rest_Row_move_cost : List Value}
  {f_Row_add_cost : Addr} {od_Row_add_cost an_Row_add_cost : Option Addr} {sl_Row_add_cost : Array (Option Value)} {oc_Row_add_cost kV_Row_add_cost dc_Row_add_cost pm_Row_add_cost cd_Row_add_cost ct_Row_add_cost : Value}
  {p_Row_add_cost : Addr} {rest_Row_add_cost : List Value}
  {f_Row_first : Addr} {od_Row_first an_Row_first : Option Addr} {sl_Row_first : Array (Option Value)} {oc_Row_first kV_Row_first dc_Row_first pm_Row_first cd_Row_first ct_Row_first : Value}
  {p_Row_first : Addr} {rest_Row_first : List Value}
  {f_Row_last : Addr} {od_Row_last an_Row_last : Option Addr} {sl_Row_last : Array (Option Value)} {oc_Row_last kV_Row_last dc_Row_last pm_Row_last cd_Row_last ct_Row_last : Value}
  {p_Row_last : Addr} {rest_Row_last : List Value}
  {f_Row_has_place : Addr} {od_Row_has_place an_Row_has_place : Option Addr} {sl_Row_has_place : Array (Option Value)} {oc_Row_has_place kV_Row_has_place dc_Row_has_place pm_Row_has_place cd_Row_has_place ct_Row_has_place : Value}
  {f_Row_eq : Addr} {od_Row_eq an_Row_eq : Option Addr} {sl_Row_eq : Array (Option Value)} {oc_Row_eq kV_Row_eq dc_Row_eq pm_Row_eq cd_Row_eq ct_Row_eq : Value}
  {tv_MIN_BASE : Tok}
  {tv_MAX_BASE : Tok}
  (a_is_whole : PySem.W.nsIn K mainGlobals "is_whole" = some (some (.ref f_is_whole)))
  (l_is_whole : K.lookup f_is_whole = some ⟨oc_is_whole, od_is_whole, .func (PySem.W.fnOf "is_whole" "is_whole" (defArgs s_is_whole) (defBody s_is_whole) (defScope s_is_whole) .none kV_is_whole dc_is_whole pm_is_whole an_is_whole cd_is_whole ct_is_whole), sl_is_whole⟩)
  (c_is_whole : PySem.W.codeIn K cd_is_whole "is_whole" = true)
  (k_is_whole : PySem.W.keepIn K (.ref f_is_whole) = true)
  (a_is_within : PySem.W.nsIn K mainGlobals "is_within" = some (some (.ref f_is_within)))
  (l_is_within : K.lookup f_is_within = some ⟨oc_is_within, od_is_within, .func (PySem.W.fnOf "is_within" "is_within" (defArgs s_is_within) (defBody s_is_within) (defScope s_is_within) .none kV_is_within dc_is_within pm_is_within an_is_within cd_is_within ct_is_within), sl_is_within⟩)
  (c_is_within : PySem.W.codeIn K cd_is_within "is_within" = true)
  (k_is_within : PySem.W.keepIn K (.ref f_is_within) = true)
  (a_is_place : PySem.W.nsIn K mainGlobals "is_place" = some (some (.ref f_is_place)))
  (l_is_place : K.lookup f_is_place = some ⟨oc_is_place, od_is_place, .func (PySem.W.fnOf "is_place" "is_place" (defArgs s_is_place) (defBody s_is_place) (defScope s_is_place) .none kV_is_place dc_is_place pm_is_place an_is_place cd_is_place ct_is_place), sl_is_place⟩)
  (c_is_place : PySem.W.codeIn K cd_is_place "is_place" = true)
  (k_is_place : PySem.W.keepIn K (.ref f_is_place) = true)
  (a_invalid_field : PySem.W.nsIn K mainGlobals "invalid_field" = some (some (.ref f_invalid_field)))
  (l_invalid_field : K.lookup f_invalid_field = some ⟨oc_invalid_field, od_invalid_field, .func (PySem.W.fnOf "invalid_field" "invalid_field" (defArgs s_invalid_field) (defBody s_invalid_field) (defScope s_invalid_field) .none kV_invalid_field dc_invalid_field pm_invalid_field an_invalid_field cd_invalid_field ct_invalid_field), sl_invalid_field⟩)
  (c_invalid_field : PySem.W.codeIn K cd_invalid_field "invalid_field" = true)
  (k_invalid_field : PySem.W.keepIn K (.ref f_invalid_field) = true)
  (a_is_cost : PySem.W.nsIn K mainGlobals "is_cost" = some (some (.ref f_is_cost)))
  (l_is_cost : K.lookup f_is_cost = some ⟨oc_is_cost, od_is_cost, .func (PySem.W.fnOf "is_cost" "is_cost" (defArgs s_is_cost) (defBody s_is_cost) (defScope s_is_cost) .none kV_is_cost dc_is_cost pm_is_cost an_is_cost cd_is_cost ct_is_cost), sl_is_cost⟩)
  (c_is_cost : PySem.W.codeIn K cd_is_cost "is_cost" = true)
  (k_is_cost : PySem.W.keepIn K (.ref f_is_cost) = true)
  (a_is_end : PySem.W.nsIn K mainGlobals "is_end" = some (some (.ref f_is_end)))
  (l_is_end : K.lookup f_is_end = some ⟨oc_is_end, od_is_end, .func (PySem.W.fnOf "is_end" "is_end" (defArgs s_is_end) (defBody s_is_end) (defScope s_is_end) .none kV_is_end dc_is_end pm_is_end an_is_end cd_is_end ct_is_end), sl_is_end⟩)
  (c_is_end : PySem.W.codeIn K cd_is_end "is_end" = true)
  (k_is_end : PySem.W.keepIn K (.ref f_is_end) = true)
  (a_law_numbers : PySem.W.nsIn K mainGlobals "_law_numbers" = some (some (.ref f_law_numbers)))
  (l_law_numbers : K.lookup f_law_numbers = some ⟨oc_law_numbers, od_law_numbers, .func (PySem.W.fnOf "_law_numbers" "_law_numbers" (defArgs s_law_numbers) (defBody s_law_numbers) (defScope s_law_numbers) .none kV_law_numbers dc_law_numbers pm_law_numbers an_law_numbers cd_law_numbers ct_law_numbers), sl_law_numbers⟩)
  (c_law_numbers : PySem.W.codeIn K cd_law_numbers "_law_numbers" = true)
  (k_law_numbers : PySem.W.keepIn K (.ref f_law_numbers) = true)
  (a_law_end : PySem.W.nsIn K mainGlobals "_law_end" = some (some (.ref f_law_end)))
  (l_law_end : K.lookup f_law_end = some ⟨oc_law_end, od_law_end, .func (PySem.W.fnOf "_law_end" "_law_end" (defArgs s_law_end) (defBody s_law_end) (defScope s_law_end) .none kV_law_end dc_law_end pm_law_end an_law_end cd_law_end ct_law_end), sl_law_end⟩)
  (c_law_end : PySem.W.codeIn K cd_law_end "_law_end" = true)
  (k_law_end : PySem.W.keepIn K (.ref f_law_end) = true)
  (a_law_arguments : PySem.W.nsIn K mainGlobals "_law_arguments" = some (some (.ref f_law_arguments)))
  (l_law_arguments : K.lookup f_law_arguments = some ⟨oc_law_arguments, od_law_arguments, .func (PySem.W.fnOf "_law_arguments" "_law_arguments" (defArgs s_law_arguments) (defBody s_law_arguments) (defScope s_law_arguments) .none kV_law_arguments dc_law_arguments pm_law_arguments an_law_arguments cd_law_arguments ct_law_arguments), sl_law_arguments⟩)
  (c_law_arguments : PySem.W.codeIn K cd_law_arguments "_law_arguments" = true)
  (k_law_arguments : PySem.W.keepIn K (.ref f_law_arguments) = true)
  (a_law_made : PySem.W.nsIn K mainGlobals "_law_made" = some (some (.ref f_law_made)))
  (l_law_made : K.lookup f_law_made = some ⟨oc_law_made, od_law_made, .func (PySem.W.fnOf "_law_made" "_law_made" (defArgs s_law_made) (defBody s_law_made) (defScope s_law_made) .none kV_law_made dc_law_made pm_law_made an_law_made cd_law_made ct_law_made), sl_law_made⟩)
  (c_law_made : PySem.W.codeIn K cd_law_made "_law_made" = true)
  (k_law_made : PySem.W.keepIn K (.ref f_law_made) = true)
  (a_law_error : PySem.W.nsIn K mainGlobals "_law_error" = some (some (.ref f_law_error)))
  (l_law_error : K.lookup f_law_error = some ⟨oc_law_error, od_law_error, .func (PySem.W.fnOf "_law_error" "_law_error" (defArgs s_law_error) (defBody s_law_error) (defScope s_law_error) .none kV_law_error dc_law_error pm_law_error an_law_error cd_law_error ct_law_error), sl_law_error⟩)
  (c_law_error : PySem.W.codeIn K cd_law_error "_law_error" = true)
  (k_law_error : PySem.W.keepIn K (.ref f_law_error) = true)
  (a_law_odd : PySem.W.nsIn K mainGlobals "_law_odd" = some (some (.ref f_law_odd)))
  (l_law_odd : K.lookup f_law_odd = some ⟨oc_law_odd, od_law_odd, .func (PySem.W.fnOf "_law_odd" "_law_odd" (defArgs s_law_odd) (defBody s_law_odd) (defScope s_law_odd) .none kV_law_odd dc_law_odd pm_law_odd an_law_odd cd_law_odd ct_law_odd), sl_law_odd⟩)
  (c_law_odd : PySem.W.codeIn K cd_law_odd "_law_odd" = true)
  (k_law_odd : PySem.W.keepIn K (.ref f_law_odd) = true)
  (a_law_has : PySem.W.nsIn K mainGlobals "_law_has" = some (some (.ref f_law_has)))
  (l_law_has : K.lookup f_law_has = some ⟨oc_law_has, od_law_has, .func (PySem.W.fnOf "_law_has" "_law_has" (defArgs s_law_has) (defBody s_law_has) (defScope s_law_has) .none kV_law_has dc_law_has pm_law_has an_law_has cd_law_has ct_law_has), sl_law_has⟩)
  (c_law_has : PySem.W.codeIn K cd_law_has "_law_has" = true)
  (k_law_has : PySem.W.keepIn K (.ref f_law_has) = true)
  (a_law_is_right : PySem.W.nsIn K mainGlobals "_law_is_right" = some (some (.ref f_law_is_right)))
  (l_law_is_right : K.lookup f_law_is_right = some ⟨oc_law_is_right, od_law_is_right, .func (PySem.W.fnOf "_law_is_right" "_law_is_right" (defArgs s_law_is_right) (defBody s_law_is_right) (defScope s_law_is_right) .none kV_law_is_right dc_law_is_right pm_law_is_right an_law_is_right cd_law_is_right ct_law_is_right), sl_law_is_right⟩)
  (c_law_is_right : PySem.W.codeIn K cd_law_is_right "_law_is_right" = true)
  (k_law_is_right : PySem.W.keepIn K (.ref f_law_is_right) = true)
  (a_law_unlike : PySem.W.nsIn K mainGlobals "_law_unlike" = some (some (.ref f_law_unlike)))
  (l_law_unlike : K.lookup f_law_unlike = some ⟨oc_law_unlike, od_law_unlike, .func (PySem.W.fnOf "_law_unlike" "_law_unlike" (defArgs s_law_unlike) (defBody s_law_unlike) (defScope s_law_unlike) .none kV_law_unlike dc_law_unlike pm_law_unlike an_law_unlike cd_law_unlike ct_law_unlike), sl_law_unlike⟩)
  (c_law_unlike : PySem.W.codeIn K cd_law_unlike "_law_unlike" = true)
  (k_law_unlike : PySem.W.keepIn K (.ref f_law_unlike) = true)
  (a_law : PySem.W.nsIn K mainGlobals "law" = some (some (.ref f_law)))
  (l_law : K.lookup f_law = some ⟨oc_law, od_law, .func (PySem.W.fnOf "law" "law" (defArgs s_law) (defBody s_law) (defScope s_law) .none kV_law dc_law pm_law an_law cd_law ct_law), sl_law⟩)
  (c_law : PySem.W.codeIn K cd_law "law" = true)
  (k_law : PySem.W.keepIn K (.ref f_law) = true)
  (a_InvalidRow : PySem.W.nsIn K mainGlobals "InvalidRow" = some (some (.ref C_InvalidRow)))
  (x_InvalidRow : K.lookup C_InvalidRow = some (excClassObj nm_InvalidRow q_InvalidRow C_InvalidRow N_InvalidRow bs_InvalidRow bm_InvalidRow true sn_InvalidRow sub_InvalidRow ab_InvalidRow col_InvalidRow dd_InvalidRow m0_InvalidRow m1_InvalidRow m2_InvalidRow m3_InvalidRow m5_InvalidRow "Exception.__new__"))
  (xt_InvalidRow : PySem.W.excTail [.type "Exception", .type "BaseException", .type "object"] bm_InvalidRow = true)
  (ov_InvalidRow : PySem.W.excOver K C_InvalidRow [.type "Exception", .type "BaseException", .type "object"] = true)
  (sa_InvalidRow : PySem.W.findIn K (.ref C_InvalidRow) "__setattr__" = some (some (.builtin "object.__setattr__")))
  (ga_InvalidRow : PySem.W.findIn K (.ref C_InvalidRow) "__getattribute__" = some (some (.builtin "BaseException.__getattribute__")))
  (gg_InvalidRow : PySem.W.findIn K (.ref C_InvalidRow) "__getattr__" = some none)
  (nn_InvalidRow : PySem.W.findIn K (.ref C_InvalidRow) "field" = some none)
  (ii_InvalidRow : PySem.W.findIn K (.ref C_InvalidRow) "__init__" = some (some (.ref I_InvalidRow)))
  (cc_InvalidRow : PySem.W.findIn K (.ref C_InvalidRow) "__class__" = some (some (.builtin "object.__class__")))
  (ti_InvalidRow : PySem.W.typeIn K (.ref I_InvalidRow) = some (.type "function"))
  (kc_InvalidRow : PySem.W.keepIn K (.ref C_InvalidRow) = true)
  (ex_InvalidRow : PySem.W.subIn K (.ref C_InvalidRow) (.type "BaseException") = some true)
  (tc_InvalidRow : PySem.W.typeIn K (.ref C_InvalidRow) = some (.type "type"))
  (hd_InvalidRow : PySem.W.hasDictIn K C_InvalidRow = true)
  (te_InvalidRow : PySem.W.exmOne K (.ref C_InvalidRow) (.ref C_InvalidRow) = some true)
  (cn_InvalidRow : PySem.W.specialIn K (.builtin "object.__class__") "__get__" = some (some (.builtin "getset_descriptor.__get__")))
  (ct_InvalidRow : PySem.W.takesIn K (.builtin "object.__class__") = some true)
  (cm_InvalidRow : PySem.W.mroIn K C_InvalidRow (.type "object") = some true)
  (li_InvalidRow : K.lookup I_InvalidRow = some ⟨oc_InvalidRow, od_InvalidRow, .func (PySem.W.fnOf "__init__" "InvalidRow.__init__" (defArgs (inClass (top 2) 0)) (defBody (inClass (top 2) 0)) (defScope (inClass (top 2) 0)) .none .none dc_InvalidRow pm_InvalidRow an_InvalidRow cd_InvalidRow cv_InvalidRow), sl_InvalidRow⟩)
  (ci_InvalidRow : PySem.W.codeIn K cd_InvalidRow "InvalidRow.__init__" = true)
  (a_HeadError : PySem.W.nsIn K mainGlobals "HeadError" = some (some (.ref C_HeadError)))
  (a_InvalidNumber : PySem.W.nsIn K mainGlobals "InvalidNumber" = some (some (.ref C_InvalidNumber)))
  (n_MAX_PLACE : PySem.W.nsIn K mainGlobals "MAX_PLACE" = some (some (.int 1000 t_MAX_PLACE)))
  (n_MAX_COST : PySem.W.nsIn K mainGlobals "MAX_COST" = some (some (.int 1000000 t_MAX_COST)))
  (z_bool : PySem.W.nsIn K mainGlobals "bool" = some none)
  (z_enumerate : PySem.W.nsIn K mainGlobals "enumerate" = some none)
  (z_int : PySem.W.nsIn K mainGlobals "int" = some none)
  (z_isinstance : PySem.W.nsIn K mainGlobals "isinstance" = some none)
  (z_len : PySem.W.nsIn K mainGlobals "len" = some none)
  (z_list : PySem.W.nsIn K mainGlobals "list" = some none)
  (z_max : PySem.W.nsIn K mainGlobals "max" = some none)
  (z_range : PySem.W.nsIn K mainGlobals "range" = some none)
  (z_repr : PySem.W.nsIn K mainGlobals "repr" = some none)
  (z_sorted : PySem.W.nsIn K mainGlobals "sorted" = some none)
  (a_Row : PySem.W.nsIn K mainGlobals "Row" = some (some (.ref C_Row)))
  (pg_Row : PySem.W.plainGet K C_Row Str.empty = true)
  (hd_Row : PySem.W.hasDictIn K C_Row = true)
  (po_Row : PySem.W.plainOver K C_Row = true)
  (sa_Row : PySem.W.findIn K (.ref C_Row) "__setattr__" = some (some (.builtin "object.__setattr__")))
  (nS_Row : PySem.W.findIn K (.ref C_Row) "settings" = some none)
  (ha_Row : PySem.W.findIn K (.ref C_Row) "__class__" = some (some (.builtin "object.__class__")))
  (hn_Row : PySem.W.specialIn K (.builtin "object.__class__") "__get__" = some (some (.builtin "getset_descriptor.__get__")))
  (ht_Row : PySem.W.takesIn K (.builtin "object.__class__") = some true)
  (hm_Row : PySem.W.mroIn K C_Row (.type "object") = some true)
  (i_Row_init : PySem.W.findIn K (.ref C_Row) "__init__" = some (some (.ref f_Row_init)))
  (if_Row_init : PySem.W.isFn K (.ref f_Row_init) = true)
  (l_Row_init : K.lookup f_Row_init = some ⟨oc_Row_init, od_Row_init, .func (PySem.W.fnOf "__init__" "Row.__init__" (defArgs s_Row_init) (defBody s_Row_init) (defScope s_Row_init) .none (.ref D_Row_init) dc_Row_init pm_Row_init an_Row_init cd_Row_init ct_Row_init), sl_Row_init⟩)
  (c_Row_init : PySem.W.codeIn K cd_Row_init "Row.__init__" = true)
  (k_Row_init : PySem.W.keepIn K (.ref f_Row_init) = true)
  (mk_Row : PySem.W.makesIn K C_Row = true)
  (kc_Row : PySem.W.keepIn K (.ref C_Row) = true)
  (d0_Row_init : PySem.W.nsIn K D_Row_init "move" = some (some (.int 1 tk0_Row_init)))
  (d1_Row_init : PySem.W.nsIn K D_Row_init "add" = some (some (.int 1 tk1_Row_init)))
  (d2_Row_init : PySem.W.nsIn K D_Row_init "first" = some (some (.none)))
  (d3_Row_init : PySem.W.nsIn K D_Row_init "last" = some (some (.none)))
  (at_Row_base : PySem.W.findIn K (.ref C_Row) "base" = some (some (.ref p_Row_base)))
  (gt_Row_base : PySem.W.specialIn K (.ref p_Row_base) "__get__" = some (some (.builtin "property.__get__")))
  (tk_Row_base : PySem.W.takesIn K (.ref p_Row_base) = some true)
  (rc_Row_base : PySem.W.recIn K p_Row_base "property" = some (.ref f_Row_base :: rest_Row_base))
  (l_Row_base : K.lookup f_Row_base = some ⟨oc_Row_base, od_Row_base, .func (PySem.W.fnOf "base" "Row.base" (defArgs s_Row_base) (defBody s_Row_base) (defScope s_Row_base) .none kV_Row_base dc_Row_base pm_Row_base an_Row_base cd_Row_base ct_Row_base), sl_Row_base⟩)
  (c_Row_base : PySem.W.codeIn K cd_Row_base "Row.base" = true)
  (k_Row_base : PySem.W.keepIn K (.ref f_Row_base) = true)
  (at_Row_move_cost : PySem.W.findIn K (.ref C_Row) "move_cost" = some (some (.ref p_Row_move_cost)))
  (gt_Row_move_cost : PySem.W.specialIn K (.ref p_Row_move_cost) "__get__" = some (some (.builtin "property.__get__")))
  (tk_Row_move_cost : PySem.W.takesIn K (.ref p_Row_move_cost) = some true)
  (rc_Row_move_cost : PySem.W.recIn K p_Row_move_cost "property" = some (.ref f_Row_move_cost :: rest_Row_move_cost))
  (l_Row_move_cost : K.lookup f_Row_move_cost = some ⟨oc_Row_move_cost, od_Row_move_cost, .func (PySem.W.fnOf "move_cost" "Row.move_cost" (defArgs s_Row_move_cost) (defBody s_Row_move_cost) (defScope s_Row_move_cost) .none kV_Row_move_cost dc_Row_move_cost pm_Row_move_cost an_Row_move_cost cd_Row_move_cost ct_Row_move_cost), sl_Row_move_cost⟩)
  (c_Row_move_cost : PySem.W.codeIn K cd_Row_move_cost "Row.move_cost" = true)
  (k_Row_move_cost : PySem.W.keepIn K (.ref f_Row_move_cost) = true)
  (at_Row_add_cost : PySem.W.findIn K (.ref C_Row) "add_cost" = some (some (.ref p_Row_add_cost)))
  (gt_Row_add_cost : PySem.W.specialIn K (.ref p_Row_add_cost) "__get__" = some (some (.builtin "property.__get__")))
  (tk_Row_add_cost : PySem.W.takesIn K (.ref p_Row_add_cost) = some true)
  (rc_Row_add_cost : PySem.W.recIn K p_Row_add_cost "property" = some (.ref f_Row_add_cost :: rest_Row_add_cost))
  (l_Row_add_cost : K.lookup f_Row_add_cost = some ⟨oc_Row_add_cost, od_Row_add_cost, .func (PySem.W.fnOf "add_cost" "Row.add_cost" (defArgs s_Row_add_cost) (defBody s_Row_add_cost) (defScope s_Row_add_cost) .none kV_Row_add_cost dc_Row_add_cost pm_Row_add_cost an_Row_add_cost cd_Row_add_cost ct_Row_add_cost), sl_Row_add_cost⟩)
  (c_Row_add_cost : PySem.W.codeIn K cd_Row_add_cost "Row.add_cost" = true)
  (k_Row_add_cost : PySem.W.keepIn K (.ref f_Row_add_cost) = true)
  (at_Row_first : PySem.W.findIn K (.ref C_Row) "first" = some (some (.ref p_Row_first)))
  (gt_Row_first : PySem.W.specialIn K (.ref p_Row_first) "__get__" = some (some (.builtin "property.__get__")))
  (tk_Row_first : PySem.W.takesIn K (.ref p_Row_first) = some true)
  (rc_Row_first : PySem.W.recIn K p_Row_first "property" = some (.ref f_Row_first :: rest_Row_first))
  (l_Row_first : K.lookup f_Row_first = some ⟨oc_Row_first, od_Row_first, .func (PySem.W.fnOf "first" "Row.first" (defArgs s_Row_first) (defBody s_Row_first) (defScope s_Row_first) .none kV_Row_first dc_Row_first pm_Row_first an_Row_first cd_Row_first ct_Row_first), sl_Row_first⟩)
  (c_Row_first : PySem.W.codeIn K cd_Row_first "Row.first" = true)
  (k_Row_first : PySem.W.keepIn K (.ref f_Row_first) = true)
  (at_Row_last : PySem.W.findIn K (.ref C_Row) "last" = some (some (.ref p_Row_last)))
  (gt_Row_last : PySem.W.specialIn K (.ref p_Row_last) "__get__" = some (some (.builtin "property.__get__")))
  (tk_Row_last : PySem.W.takesIn K (.ref p_Row_last) = some true)
  (rc_Row_last : PySem.W.recIn K p_Row_last "property" = some (.ref f_Row_last :: rest_Row_last))
  (l_Row_last : K.lookup f_Row_last = some ⟨oc_Row_last, od_Row_last, .func (PySem.W.fnOf "last" "Row.last" (defArgs s_Row_last) (defBody s_Row_last) (defScope s_Row_last) .none kV_Row_last dc_Row_last pm_Row_last an_Row_last cd_Row_last ct_Row_last), sl_Row_last⟩)
  (c_Row_last : PySem.W.codeIn K cd_Row_last "Row.last" = true)
  (k_Row_last : PySem.W.keepIn K (.ref f_Row_last) = true)
  (at_Row_has_place : PySem.W.findIn K (.ref C_Row) "has_place" = some (some (.ref f_Row_has_place)))
  (if_Row_has_place : PySem.W.isFn K (.ref f_Row_has_place) = true)
  (l_Row_has_place : K.lookup f_Row_has_place = some ⟨oc_Row_has_place, od_Row_has_place, .func (PySem.W.fnOf "has_place" "Row.has_place" (defArgs s_Row_has_place) (defBody s_Row_has_place) (defScope s_Row_has_place) .none kV_Row_has_place dc_Row_has_place pm_Row_has_place an_Row_has_place cd_Row_has_place ct_Row_has_place), sl_Row_has_place⟩)
  (c_Row_has_place : PySem.W.codeIn K cd_Row_has_place "Row.has_place" = true)
  (k_Row_has_place : PySem.W.keepIn K (.ref f_Row_has_place) = true)
  (at_Row_eq : PySem.W.findIn K (.ref C_Row) "__eq__" = some (some (.ref f_Row_eq)))
  (if_Row_eq : PySem.W.isFn K (.ref f_Row_eq) = true)
  (l_Row_eq : K.lookup f_Row_eq = some ⟨oc_Row_eq, od_Row_eq, .func (PySem.W.fnOf "__eq__" "Row.__eq__" (defArgs s_Row_eq) (defBody s_Row_eq) (defScope s_Row_eq) .none kV_Row_eq dc_Row_eq pm_Row_eq an_Row_eq cd_Row_eq ct_Row_eq), sl_Row_eq⟩)
  (c_Row_eq : PySem.W.codeIn K cd_Row_eq "Row.__eq__" = true)
  (k_Row_eq : PySem.W.keepIn K (.ref f_Row_eq) = true)
  (rd_Row : PySem.W.readsIn K C_Row (.type "type") = true)
  (rg_Row : PySem.W.specialIn K (.ref C_Row) "__getattribute__" = some (some (.builtin "type.__getattribute__")))
  (v_MIN_BASE : PySem.W.findCls K (.ref C_Row) (.type "type") "MIN_BASE" = some (.val (.int 2 tv_MIN_BASE)))
  (v_MAX_BASE : PySem.W.findCls K (.ref C_Row) (.type "type") "MAX_BASE" = some (.val (.int 36 tv_MAX_BASE)))
  (x_isHead : PySem.W.kitOne K (.ref C_InvalidRow) (.ref C_HeadError) = some true)
  (x_isNum : PySem.W.kitOne K (.ref C_InvalidRow) (.ref C_InvalidNumber) = some false)
  (x_rowRow : PySem.W.kitOne K (.ref C_Row) (.ref C_Row) = some true)
  (x_listRow : PySem.W.kitOne K (.type "list") (.ref C_Row) = some false)
  (x_nfList : PySem.W.notFirst K C_Row (.type "list") = true)
  (x_nfRow : PySem.W.notFirst K C_Row (.ref C_Row) = true)

    : ∃ fd : FuncData, (∀ (s : Shared) (v : Value), BindsTo s fd ⟨[v], []⟩ [("_law_script", v)]) ∧ ∀ base : Heap, K.In base → base.Ns mainGlobals mg → FnG l.prog w K mg base CX0 12 fa fd ["_law_script"] (sp_law K) := by
  have e := hfa.symm.trans (PySem.W.mg_of X G a_law)
  cases e
  have T : Tx K mg := mkTx X G a_is_whole l_is_whole c_is_whole k_is_whole a_is_within l_is_within c_is_within k_is_within a_is_place l_is_place c_is_place k_is_place a_invalid_field l_invalid_field c_invalid_field k_invalid_field a_is_cost l_is_cost c_is_cost k_is_cost a_is_end l_is_end c_is_end k_is_end a_law_numbers l_law_numbers c_law_numbers k_law_numbers a_law_end l_law_end c_law_end k_law_end a_law_arguments l_law_arguments c_law_arguments k_law_arguments a_law_made l_law_made c_law_made k_law_made a_law_error l_law_error c_law_error k_law_error a_law_odd l_law_odd c_law_odd k_law_odd a_law_has l_law_has c_law_has k_law_has a_law_is_right l_law_is_right c_law_is_right k_law_is_right a_law_unlike l_law_unlike c_law_unlike k_law_unlike a_law l_law c_law k_law a_InvalidRow x_InvalidRow xt_InvalidRow ov_InvalidRow sa_InvalidRow ga_InvalidRow gg_InvalidRow nn_InvalidRow ii_InvalidRow cc_InvalidRow ti_InvalidRow kc_InvalidRow ex_InvalidRow tc_InvalidRow hd_InvalidRow te_InvalidRow cn_InvalidRow ct_InvalidRow cm_InvalidRow li_InvalidRow ci_InvalidRow a_HeadError a_InvalidNumber n_MAX_PLACE n_MAX_COST z_bool z_enumerate z_int z_isinstance z_len z_list z_max z_range z_repr z_sorted a_Row pg_Row hd_Row po_Row sa_Row nS_Row ha_Row hn_Row ht_Row hm_Row i_Row_init if_Row_init l_Row_init c_Row_init k_Row_init mk_Row kc_Row d0_Row_init d1_Row_init d2_Row_init d3_Row_init at_Row_base gt_Row_base tk_Row_base rc_Row_base l_Row_base c_Row_base k_Row_base at_Row_move_cost gt_Row_move_cost tk_Row_move_cost rc_Row_move_cost l_Row_move_cost c_Row_move_cost k_Row_move_cost at_Row_add_cost gt_Row_add_cost tk_Row_add_cost rc_Row_add_cost l_Row_add_cost c_Row_add_cost k_Row_add_cost at_Row_first gt_Row_first tk_Row_first rc_Row_first l_Row_first c_Row_first k_Row_first at_Row_last gt_Row_last tk_Row_last rc_Row_last l_Row_last c_Row_last k_Row_last at_Row_has_place if_Row_has_place l_Row_has_place c_Row_has_place k_Row_has_place at_Row_eq if_Row_eq l_Row_eq c_Row_eq k_Row_eq rd_Row rg_Row v_MIN_BASE v_MAX_BASE x_isHead x_isNum x_rowRow x_listRow x_nfList x_nfRow
  exact ⟨_, fun s v => .of_eq rfl, fun base _ _ => ok_law (P := l.prog) (w := w) (base := base) (mkTx X G a_is_whole l_is_whole c_is_whole k_is_whole a_is_within l_is_within c_is_within k_is_within a_is_place l_is_place c_is_place k_is_place a_invalid_field l_invalid_field c_invalid_field k_invalid_field a_is_cost l_is_cost c_is_cost k_is_cost a_is_end l_is_end c_is_end k_is_end a_law_numbers l_law_numbers c_law_numbers k_law_numbers a_law_end l_law_end c_law_end k_law_end a_law_arguments l_law_arguments c_law_arguments k_law_arguments a_law_made l_law_made c_law_made k_law_made a_law_error l_law_error c_law_error k_law_error a_law_odd l_law_odd c_law_odd k_law_odd a_law_has l_law_has c_law_has k_law_has a_law_is_right l_law_is_right c_law_is_right k_law_is_right a_law_unlike l_law_unlike c_law_unlike k_law_unlike a_law l_law c_law k_law a_InvalidRow x_InvalidRow xt_InvalidRow ov_InvalidRow sa_InvalidRow ga_InvalidRow gg_InvalidRow nn_InvalidRow ii_InvalidRow cc_InvalidRow ti_InvalidRow kc_InvalidRow ex_InvalidRow tc_InvalidRow hd_InvalidRow te_InvalidRow cn_InvalidRow ct_InvalidRow cm_InvalidRow li_InvalidRow ci_InvalidRow a_HeadError a_InvalidNumber n_MAX_PLACE n_MAX_COST z_bool z_enumerate z_int z_isinstance z_len z_list z_max z_range z_repr z_sorted a_Row pg_Row hd_Row po_Row sa_Row nS_Row ha_Row hn_Row ht_Row hm_Row i_Row_init if_Row_init l_Row_init c_Row_init k_Row_init mk_Row kc_Row d0_Row_init d1_Row_init d2_Row_init d3_Row_init at_Row_base gt_Row_base tk_Row_base rc_Row_base l_Row_base c_Row_base k_Row_base at_Row_move_cost gt_Row_move_cost tk_Row_move_cost rc_Row_move_cost l_Row_move_cost c_Row_move_cost k_Row_move_cost at_Row_add_cost gt_Row_add_cost tk_Row_add_cost rc_Row_add_cost l_Row_add_cost c_Row_add_cost k_Row_add_cost at_Row_first gt_Row_first tk_Row_first rc_Row_first l_Row_first c_Row_first k_Row_first at_Row_last gt_Row_last tk_Row_last rc_Row_last l_Row_last c_Row_last k_Row_last at_Row_has_place if_Row_has_place l_Row_has_place c_Row_has_place k_Row_has_place at_Row_eq if_Row_eq l_Row_eq c_Row_eq k_Row_eq rd_Row rg_Row v_MIN_BASE v_MAX_BASE x_isHead x_isNum x_rowRow x_listRow x_nfList x_nfRow)⟩
theorem walk {l : PySem.W.OpenLaw} {q : Program} {loose : List Str} {XP : (Str → Option Value) → Heap → Prop} {YP : World → Heap → Prop} {d : DefRec} {K : Params → PySem.W.Frag} (hn : l.most = some 63) (hdf : d.params.defaults = [])
    (hY : ∀ (w : World) (h : Heap), YP w h → (K w.params).In h)
    (F : ∀ (w : World) (mg : Str → Option Value) (fa : Addr) (h : Heap), (K w.params).In h → h.Ns mainGlobals mg → mg d.name = some (.ref fa) →
      ∃ fd : FuncData, (∀ (s : Shared) (u : Value), BindsTo s fd ⟨[u], []⟩ [("_law_script", u)]) ∧ ∀ base : Heap, (K w.params).In base → base.Ns mainGlobals mg → FnG l.prog w (K w.params) mg base CX0 12 fa fd ["_law_script"] (sp_law (K w.params))) :
    PySem.W.WalkO q loose XP YP l.row.toRowW d [] (fun f vs => PySem.call f vs) :=
  walkG (n := 63) (k := 12) (x := "_law_script") (cx := fun _ => CX0) (sp := fun w => sp_law (K w.params)) hn (by decide) hdf ⟨rfl, by decide, by decide⟩ hY F (fun _ _ a ns hl _ hS => ⟨a, ns, rfl, hS, hl, fun _ => rfl⟩) fun _ _ _ _ _ z => z
end K01
open PySem PySem.W PyProof.Rows
set_option maxRecDepth 100000 in
set_option maxHeartbeats 0 in
theorem PySem.Challenge.cw_abacushead_k01_rows_holds : PySem.Challenge.rw_abacushead_k01_rows.Holds := by
  w_on; o_law; k_head; (case hw => w_witness2)
  k_fill
  refine K01.walk (l := PySem.Challenge.rw_abacushead_k01_rows) rfl rfl (fun w h Y => PySem.W.kIn_of Y) ?F
  case F =>
    intro w mg fa h KX G hmg
    refine' K01.all_mk KX G hmg ?a_is_whole ?l_is_whole ?c_is_whole ?k_is_whole ?a_is_within ?l_is_within ?c_is_within ?k_is_within ?a_is_place ?l_is_place ?c_is_place ?k_is_place ?a_invalid_field ?l_invalid_field ?c_invalid_field ?k_invalid_field ?a_is_cost ?l_is_cost ?c_is_cost ?k_is_cost ?a_is_end ?l_is_end ?c_is_end ?k_is_end ?a_law_numbers ?l_law_numbers ?c_law_numbers ?k_law_numbers ?a_law_end ?l_law_end ?c_law_end ?k_law_end ?a_law_arguments ?l_law_arguments ?c_law_arguments ?k_law_arguments ?a_law_made ?l_law_made ?c_law_made ?k_law_made ?a_law_error ?l_law_error ?c_law_error ?k_law_error ?a_law_odd ?l_law_odd ?c_law_odd ?k_law_odd ?a_law_has ?l_law_has ?c_law_has ?k_law_has ?a_law_is_right ?l_law_is_right ?c_law_is_right ?k_law_is_right ?a_law_unlike ?l_law_unlike ?c_law_unlike ?k_law_unlike ?a_law ?l_law ?c_law ?k_law ?a_InvalidRow ?x_InvalidRow ?xt_InvalidRow ?ov_InvalidRow ?sa_InvalidRow ?ga_InvalidRow ?gg_InvalidRow ?nn_InvalidRow ?ii_InvalidRow ?cc_InvalidRow ?ti_InvalidRow ?kc_InvalidRow ?ex_InvalidRow ?tc_InvalidRow ?hd_InvalidRow ?te_InvalidRow ?cn_InvalidRow ?ct_InvalidRow ?cm_InvalidRow ?li_InvalidRow ?ci_InvalidRow ?a_HeadError ?a_InvalidNumber ?n_MAX_PLACE ?n_MAX_COST ?z_bool ?z_enumerate ?z_int ?z_isinstance ?z_len ?z_list ?z_max ?z_range ?z_repr ?z_sorted ?a_Row ?pg_Row ?hd_Row ?po_Row ?sa_Row ?nS_Row ?ha_Row ?hn_Row ?ht_Row ?hm_Row ?i_Row_init ?if_Row_init ?l_Row_init ?c_Row_init ?k_Row_init ?mk_Row ?kc_Row ?d0_Row_init ?d1_Row_init ?d2_Row_init ?d3_Row_init ?at_Row_base ?gt_Row_base ?tk_Row_base ?rc_Row_base ?l_Row_base ?c_Row_base ?k_Row_base ?at_Row_move_cost ?gt_Row_move_cost ?tk_Row_move_cost ?rc_Row_move_cost ?l_Row_move_cost ?c_Row_move_cost ?k_Row_move_cost ?at_Row_add_cost ?gt_Row_add_cost ?tk_Row_add_cost ?rc_Row_add_cost ?l_Row_add_cost ?c_Row_add_cost ?k_Row_add_cost ?at_Row_first ?gt_Row_first ?tk_Row_first ?rc_Row_first ?l_Row_first ?c_Row_first ?k_Row_first ?at_Row_last ?gt_Row_last ?tk_Row_last ?rc_Row_last ?l_Row_last ?c_Row_last ?k_Row_last ?at_Row_has_place ?if_Row_has_place ?l_Row_has_place ?c_Row_has_place ?k_Row_has_place ?at_Row_eq ?if_Row_eq ?l_Row_eq ?c_Row_eq ?k_Row_eq ?rd_Row ?rg_Row ?v_MIN_BASE ?v_MAX_BASE ?x_isHead ?x_isNum ?x_rowRow ?x_listRow ?x_nfList ?x_nfRow
    (case a_is_whole => first | k_is | rfl | decide +kernel)
    (case l_is_whole => first | k_is | rfl | decide +kernel)
    (case c_is_whole => first | k_is | rfl | decide +kernel)
    (case k_is_whole => first | k_is | rfl | decide +kernel)
    (case a_is_within => first | k_is | rfl | decide +kernel)
    (case l_is_within => first | k_is | rfl | decide +kernel)
    (case c_is_within => first | k_is | rfl | decide +kernel)
    (case k_is_within => first | k_is | rfl | decide +kernel)
    (case a_is_place => first | k_is | rfl | decide +kernel)
    (case l_is_place => first | k_is | rfl | decide +kernel)
    (case c_is_place => first | k_is | rfl | decide +kernel)
    (case k_is_place => first | k_is | rfl | decide +kernel)
    (case a_invalid_field => first | k_is | rfl | decide +kernel)
    (case l_invalid_field => first | k_is | rfl | decide +kernel)
    (case c_invalid_field => first | k_is | rfl | decide +kernel)
    (case k_invalid_field => first | k_is | rfl | decide +kernel)
    (case a_is_cost => first | k_is | rfl | decide +kernel)
    (case l_is_cost => first | k_is | rfl | decide +kernel)
    (case c_is_cost => first | k_is | rfl | decide +kernel)
    (case k_is_cost => first | k_is | rfl | decide +kernel)
    (case a_is_end => first | k_is | rfl | decide +kernel)
    (case l_is_end => first | k_is | rfl | decide +kernel)
    (case c_is_end => first | k_is | rfl | decide +kernel)
    (case k_is_end => first | k_is | rfl | decide +kernel)
    (case a_law_numbers => first | k_is | rfl | decide +kernel)
    (case l_law_numbers => first | k_is | rfl | decide +kernel)
    (case c_law_numbers => first | k_is | rfl | decide +kernel)
    (case k_law_numbers => first | k_is | rfl | decide +kernel)
    (case a_law_end => first | k_is | rfl | decide +kernel)
    (case l_law_end => first | k_is | rfl | decide +kernel)
    (case c_law_end => first | k_is | rfl | decide +kernel)
    (case k_law_end => first | k_is | rfl | decide +kernel)
    (case a_law_arguments => first | k_is | rfl | decide +kernel)
    (case l_law_arguments => first | k_is | rfl | decide +kernel)
    (case c_law_arguments => first | k_is | rfl | decide +kernel)
    (case k_law_arguments => first | k_is | rfl | decide +kernel)
    (case a_law_made => first | k_is | rfl | decide +kernel)
    (case l_law_made => first | k_is | rfl | decide +kernel)
    (case c_law_made => first | k_is | rfl | decide +kernel)
    (case k_law_made => first | k_is | rfl | decide +kernel)
    (case a_law_error => first | k_is | rfl | decide +kernel)
    (case l_law_error => first | k_is | rfl | decide +kernel)
    (case c_law_error => first | k_is | rfl | decide +kernel)
    (case k_law_error => first | k_is | rfl | decide +kernel)
    (case a_law_odd => first | k_is | rfl | decide +kernel)
    (case l_law_odd => first | k_is | rfl | decide +kernel)
    (case c_law_odd => first | k_is | rfl | decide +kernel)
    (case k_law_odd => first | k_is | rfl | decide +kernel)
    (case a_law_has => first | k_is | rfl | decide +kernel)
    (case l_law_has => first | k_is | rfl | decide +kernel)
    (case c_law_has => first | k_is | rfl | decide +kernel)
    (case k_law_has => first | k_is | rfl | decide +kernel)
    (case a_law_is_right => first | k_is | rfl | decide +kernel)
    (case l_law_is_right => first | k_is | rfl | decide +kernel)
    (case c_law_is_right => first | k_is | rfl | decide +kernel)
    (case k_law_is_right => first | k_is | rfl | decide +kernel)
    (case a_law_unlike => first | k_is | rfl | decide +kernel)
    (case l_law_unlike => first | k_is | rfl | decide +kernel)
    (case c_law_unlike => first | k_is | rfl | decide +kernel)
    (case k_law_unlike => first | k_is | rfl | decide +kernel)
    (case a_law => first | k_is | rfl | decide +kernel)
    (case l_law => first | k_is | rfl | decide +kernel)
    (case c_law => first | k_is | rfl | decide +kernel)
    (case k_law => first | k_is | rfl | decide +kernel)
    (case a_InvalidRow => first | k_is | rfl | decide +kernel)
    (case x_InvalidRow => first | k_is | rfl | decide +kernel)
    (case xt_InvalidRow => first | k_is | rfl | decide +kernel)
    (case ov_InvalidRow => first | k_is | rfl | decide +kernel)
    (case sa_InvalidRow => first | k_is | rfl | decide +kernel)
    (case ga_InvalidRow => first | k_is | rfl | decide +kernel)
    (case gg_InvalidRow => first | k_is | rfl | decide +kernel)
    (case nn_InvalidRow => first | k_is | rfl | decide +kernel)
    (case ii_InvalidRow => first | k_is | rfl | decide +kernel)
    (case cc_InvalidRow => first | k_is | rfl | decide +kernel)
    (case ti_InvalidRow => first | k_is | rfl | decide +kernel)
    (case kc_InvalidRow => first | k_is | rfl | decide +kernel)
    (case ex_InvalidRow => first | k_is | rfl | decide +kernel)
    (case tc_InvalidRow => first | k_is | rfl | decide +kernel)
    (case hd_InvalidRow => first | k_is | rfl | decide +kernel)
    (case te_InvalidRow => first | k_is | rfl | decide +kernel)
    (case cn_InvalidRow => first | k_is | rfl | decide +kernel)
    (case ct_InvalidRow => first | k_is | rfl | decide +kernel)
    (case cm_InvalidRow => first | k_is | rfl | decide +kernel)
    (case li_InvalidRow => first | k_is | rfl | decide +kernel)
    (case ci_InvalidRow => first | k_is | rfl | decide +kernel)
    (case a_HeadError => first | k_is | rfl | decide +kernel)
    (case a_InvalidNumber => first | k_is | rfl | decide +kernel)
    (case n_MAX_PLACE => first | k_is | rfl | decide +kernel)
    (case n_MAX_COST => first | k_is | rfl | decide +kernel)
    (case z_bool => first | k_is | rfl | decide +kernel)
    (case z_enumerate => first | k_is | rfl | decide +kernel)
    (case z_int => first | k_is | rfl | decide +kernel)
    (case z_isinstance => first | k_is | rfl | decide +kernel)
    (case z_len => first | k_is | rfl | decide +kernel)
    (case z_list => first | k_is | rfl | decide +kernel)
    (case z_max => first | k_is | rfl | decide +kernel)
    (case z_range => first | k_is | rfl | decide +kernel)
    (case z_repr => first | k_is | rfl | decide +kernel)
    (case z_sorted => first | k_is | rfl | decide +kernel)
    (case a_Row => first | k_is | rfl | decide +kernel)
    (case pg_Row => first | k_is | rfl | decide +kernel)
    (case hd_Row => first | k_is | rfl | decide +kernel)
    (case po_Row => first | k_is | rfl | decide +kernel)
    (case sa_Row => first | k_is | rfl | decide +kernel)
    (case nS_Row => first | k_is | rfl | decide +kernel)
    (case ha_Row => first | k_is | rfl | decide +kernel)
    (case hn_Row => first | k_is | rfl | decide +kernel)
    (case ht_Row => first | k_is | rfl | decide +kernel)
    (case hm_Row => first | k_is | rfl | decide +kernel)
    (case i_Row_init => first | k_is | rfl | decide +kernel)
    (case if_Row_init => first | k_is | rfl | decide +kernel)
    (case l_Row_init => first | k_is | rfl | decide +kernel)
    (case c_Row_init => first | k_is | rfl | decide +kernel)
    (case k_Row_init => first | k_is | rfl | decide +kernel)
    (case mk_Row => first | k_is | rfl | decide +kernel)
    (case kc_Row => first | k_is | rfl | decide +kernel)
    (case d0_Row_init => first | k_is | rfl | decide +kernel)
    (case d1_Row_init => first | k_is | rfl | decide +kernel)
    (case d2_Row_init => first | k_is | rfl | decide +kernel)
    (case d3_Row_init => first | k_is | rfl | decide +kernel)
    (case at_Row_base => first | k_is | rfl | decide +kernel)
    (case gt_Row_base => first | k_is | rfl | decide +kernel)
    (case tk_Row_base => first | k_is | rfl | decide +kernel)
    (case rc_Row_base => first | k_is | rfl | decide +kernel)
    (case l_Row_base => first | k_is | rfl | decide +kernel)
    (case c_Row_base => first | k_is | rfl | decide +kernel)
    (case k_Row_base => first | k_is | rfl | decide +kernel)
    (case at_Row_move_cost => first | k_is | rfl | decide +kernel)
    (case gt_Row_move_cost => first | k_is | rfl | decide +kernel)
    (case tk_Row_move_cost => first | k_is | rfl | decide +kernel)
    (case rc_Row_move_cost => first | k_is | rfl | decide +kernel)
    (case l_Row_move_cost => first | k_is | rfl | decide +kernel)
    (case c_Row_move_cost => first | k_is | rfl | decide +kernel)
    (case k_Row_move_cost => first | k_is | rfl | decide +kernel)
    (case at_Row_add_cost => first | k_is | rfl | decide +kernel)
    (case gt_Row_add_cost => first | k_is | rfl | decide +kernel)
    (case tk_Row_add_cost => first | k_is | rfl | decide +kernel)
    (case rc_Row_add_cost => first | k_is | rfl | decide +kernel)
    (case l_Row_add_cost => first | k_is | rfl | decide +kernel)
    (case c_Row_add_cost => first | k_is | rfl | decide +kernel)
    (case k_Row_add_cost => first | k_is | rfl | decide +kernel)
    (case at_Row_first => first | k_is | rfl | decide +kernel)
    (case gt_Row_first => first | k_is | rfl | decide +kernel)
    (case tk_Row_first => first | k_is | rfl | decide +kernel)
    (case rc_Row_first => first | k_is | rfl | decide +kernel)
    (case l_Row_first => first | k_is | rfl | decide +kernel)
    (case c_Row_first => first | k_is | rfl | decide +kernel)
    (case k_Row_first => first | k_is | rfl | decide +kernel)
    (case at_Row_last => first | k_is | rfl | decide +kernel)
    (case gt_Row_last => first | k_is | rfl | decide +kernel)
    (case tk_Row_last => first | k_is | rfl | decide +kernel)
    (case rc_Row_last => first | k_is | rfl | decide +kernel)
    (case l_Row_last => first | k_is | rfl | decide +kernel)
    (case c_Row_last => first | k_is | rfl | decide +kernel)
    (case k_Row_last => first | k_is | rfl | decide +kernel)
    (case at_Row_has_place => first | k_is | rfl | decide +kernel)
    (case if_Row_has_place => first | k_is | rfl | decide +kernel)
    (case l_Row_has_place => first | k_is | rfl | decide +kernel)
    (case c_Row_has_place => first | k_is | rfl | decide +kernel)
    (case k_Row_has_place => first | k_is | rfl | decide +kernel)
    (case at_Row_eq => first | k_is | rfl | decide +kernel)
    (case if_Row_eq => first | k_is | rfl | decide +kernel)
    (case l_Row_eq => first | k_is | rfl | decide +kernel)
    (case c_Row_eq => first | k_is | rfl | decide +kernel)
    (case k_Row_eq => first | k_is | rfl | decide +kernel)
    (case rd_Row => first | k_is | rfl | decide +kernel)
    (case rg_Row => first | k_is | rfl | decide +kernel)
    (case v_MIN_BASE => first | k_is | rfl | decide +kernel)
    (case v_MAX_BASE => first | k_is | rfl | decide +kernel)
    (case x_isHead => first | k_is | rfl | decide +kernel)
    (case x_isNum => first | k_is | rfl | decide +kernel)
    (case x_rowRow => first | k_is | rfl | decide +kernel)
    (case x_listRow => first | k_is | rfl | decide +kernel)
    (case x_nfList => first | k_is | rfl | decide +kernel)
    (case x_nfRow => first | k_is | rfl | decide +kernel)
