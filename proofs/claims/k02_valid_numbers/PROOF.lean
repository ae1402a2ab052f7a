import PyProof.Rows.All
import Wide.All
import OpenK.AllK
import Wide.FinOn
import HandS.ForExc
import HandS.Wide
import HandS.IsInst
import HandS.ExcIs
import KE.KExcInit
import KE.KExcIs
import HandS.ForMost
import HandS.WideMore
import HandS.WideBits
import HandS.RevRange
import HandS.Rev
import HandS.NoneIn
import PyProof.ReprBulk
import HandS.Walk
import PySem.Challenge.RW_abacushead_k02_valid_numbers
set_option Elab.async false
set_option linter.all false
set_option maxRecDepth 100000
set_option exponentiation.threshold 100
/-! repr of data, and promises that hold where no repr is under way -/
namespace GL
open PySem L2 PySem.Spec PyProof.Rows

/-- nothing is being shown -/
abbrev Quiet (A : Around) : Prop := A.guards = some []

/-- a def's promise, asked only where nothing is being shown -/
structure FnG (P : Program) (w : World) (K : PySem.W.Frag) (mg : Str → Option Value) (base : Heap) (cx : CXT) (k : Nat) (f : Addr)
    (fd : FuncData) (ps : List Str) (sp : Sp) : Prop where
  len : ∀ vs H Q E, sp vs H Q E → vs.length = ps.length
  go : ∀ {A : Around} {outer : List Env} {s : Shared} {H : Hp} {args : Args} {us : List Value} {vs : List V} {Q : VK} {E : XK},
    Quiet A → Room k A → Env0 P w K mg base A outer s H → BindsTo s fd args (ps.zip us) → Vals vs us → sp vs H Q E →
    codeAny (model P w) A (.call (.ref f) args) (CR cx outer P w H s Q E) s

section
variable {P : Program} {w : World} {K : PySem.W.Frag} {mg : Str → Option Value} {base : Heap} {cx : CXT} {k : Nat} {f : Addr}
  {fd : FuncData} {ps : List Str} {sp : Sp}
theorem FnG.of (F : FnOk P w K mg base cx k f fd ps sp) : FnG P w K mg base cx k f fd ps sp :=
  ⟨F.len, fun _ hr e b v h => F.run _ _ _ _ _ _ _ _ _ hr e b v h⟩

/-- a def by its body -/
theorem FnG.mkX {N : List Str} {x qual : Str} {st : Stmt} (F : Fun K x qual st f fd) (S : FnScope N ps (defScope st))
    (len : ∀ vs H Q E, sp vs H Q E → vs.length = ps.length)
    (body : ∀ (cdv : Value) (A : Around) (outer : List Env) (s : Shared) (H : Hp) (vs : List V) (Q : VK) (E : XK),
      Quiet A → Room k (A.deeper (envOfC qual (defScope st) s.heap.objs.size f cdv)) → sp vs H Q E →
      ∃ t, PSs (cxOf cx P w K mg base N qual (defScope st) f cdv A outer s H E) (defBody st) t ∧
        t { nx := fun _ H' => Q .non H', rt := Q } (start N vs) H) : FnG P w K mg base cx (k + 1) f fd ps sp := by
  obtain ⟨oc, od, kV, doc, pm, an, cdv, ct, osl, rfl, lk, hcd⟩ := F.ex
  constructor
  · exact len
  · intro A outer s H args us vs Q E quiet hr e0 hb rv hsp
    have h1 := len _ _ _ _ hsp
    have KX : K.In s.heap := fun b o e => (e0.bs b o (e0.mod.kin b o e)).1
    have lim : s.heap.NoLimit := e0.mod.nolimit.keeps fun b o e => (e0.bs b o e).1
    obtain ⟨t, ht, hq⟩ := body cdv A outer s H vs Q E quiet (hr.deeper _) hsp
    refine codeAny_call_function hr.depth (KX _ _ lk) rfl S.co S.gen rfl (PySem.W.codeRec_of KX hcd) ?_
    refine hb _ _ _ _ (wpAny_newFunctionEnv_cells S.kind ?_ ?_)
    · rintro ⟨n, v⟩ hy
      have hp := (List.of_mem_zip hy).1
      cases S.par n hp with
      | inl q => exact Or.inl q
      | inr q => exact Or.inr ⟨q, PySem.W.cellsFrom_some _ _ _ (Or.inl q)⟩
    · intro env he s1 ic
      cases he
      refine ⟨lim.keeps ic.toInCall.keep, codeAny_func (wpAny_mono (ht.run [] s1 (start N vs) H _
        (inv_start S hr.hd e0 h1 rv ic) hq) ?_ fun _ _ z => z)⟩
      intro fl s' hs
      cases fl with
      | next =>
        obtain ⟨σ', H', J, q⟩ := hs
        exact ⟨V.non, H', J.os, J.bare, J.base, J.hok, rfl, q⟩
      | ret u =>
        obtain ⟨v, σ', H', J, r', q⟩ := hs
        exact ⟨v, H', J.os, J.bare, J.base, J.hok, r', q⟩
      | brk =>
        obtain ⟨_, _, _, q⟩ := hs
        exact (q : False).elim
      | cont =>
        obtain ⟨_, _, _, q⟩ := hs
        exact (q : False).elim
/-- .. that no exception leaves -/
theorem FnG.mk0 {N : List Str} {x qual : Str} {st : Stmt} (F : Fun K x qual st f fd) (S : FnScope N ps (defScope st))
    (len : ∀ vs H Q E, sp vs H Q E → vs.length = ps.length)
    (body : ∀ (cdv : Value) (A : Around) (outer : List Env) (s : Shared) (H : Hp) (vs : List V) (Q : VK) (E : XK),
      Quiet A → Room k (A.deeper (envOfC qual (defScope st) s.heap.objs.size f cdv)) → sp vs H Q E →
      ∃ t, PSs (cxOf CX0 P w K mg base N qual (defScope st) f cdv A outer s H E).nox (defBody st) t ∧
        t { nx := fun _ H' => Q .non H', rt := Q } (start N vs) H) : FnG P w K mg base CX0 (k + 1) f fd ps sp :=
  FnG.mkX F S len fun cdv A outer s H vs Q E qu hr h => by
    obtain ⟨t, h1, h2⟩ := body cdv A outer s H vs Q E qu hr h
    exact ⟨t, h1.nox, h2⟩
end

section
variable {X : Cx} {cx : CXT} {k : Nat} {f : Addr} {fd : FuncData} {ps : List Str} {sp : Sp} {dvs : List V} {ds : List Value} {E : XK}
/-- the call of such a def -/
theorem runG {pins : List (Addr × Obj)} {σ : L2.St} {H : Hp} {s : Shared} {Q : VK} {us : List Value} {vs : List V}
    (F : FnG X.prog X.w X.K X.mg X.base cx k f fd ps sp) (quiet : Quiet X.A) (hr : Room k X.A) (hb : Binds X.K fd ps ds) (hd : Vals dvs ds)
    (hx : Passes cx X E) (I : Inv X pins σ H s) (r : Vals vs us) (h : sp (vs ++ dvs) H Q E) :
    wpAny (model X.prog X.w) X.A (call (.ref f) us) (EP X pins σ Q) X.xe s := by
  have both := r.append hd
  have hl : (us ++ ds).length = ps.length := both.length.symm.trans (F.len _ _ _ _ h)
  refine wpAny_call (codeAny_mono (F.go quiet hr I.env0 (hb s us I.kIn hl) both h) ?_)
  intro res s' hq
  cases res with
  | error e => exact hx _ _ _ _ _ _ I hq
  | ok fl =>
    cases fl with
    | ret u => exact I.after hq
    | next => exact (hq : False).elim
    | brk => exact (hq : False).elim
    | cont => exact (hq : False).elim
theorem pe_callG {x : Str} {p pos : Pos} {e : Expr} {es : List Expr} {t : TA} (F : FnG X.prog X.w X.K X.mg X.base cx k f fd ps sp)
    (quiet : Quiet X.A) (hr : Room k X.A) (hg : Gl X x) (hm : X.mg x = some (.ref f)) (hk : PySem.W.keepIn X.K (.ref f) = true)
    (hb : Binds X.K fd ps ds) (hd : Vals dvs ds) (hx : Passes cx X E) (ha : PA X (e :: es) t)
    (hdb : (x == ("__debug__" : Str)) = false := by decide)
    (he : starEach (e :: es) X.env = (false, eval e X.env) :: starEach es X.env := by rfl)
    (hpl : (backTo pos (starEach es X.env)).any (·.1) = false := by rfl) : PE X (.Call (.Name x p) (e :: es) [] pos) (tCall sp dvs E t) := by
  constructor
  intro pins s σ H Q I h
  apply wpAny_Call_Name_kw
  apply ld_glob I hg hm _ hdb
  refine PySem.W.callWith_K (h₀ := X.base) I.ok.mod.kin hk ?_ he hpl
  refine thn (ha.run pos pins s σ H _ I h) ?_
  rintro us s1 ⟨vs, H1, I1, r, q⟩
  exact ⟨I1.kIn, runG F quiet hr hb hd hx I1 r q⟩
theorem pe_call0G {x : Str} {p pos : Pos} (F : FnG X.prog X.w X.K X.mg X.base cx k f fd ps sp)
    (quiet : Quiet X.A) (hr : Room k X.A) (hg : Gl X x) (hm : X.mg x = some (.ref f)) (hk : PySem.W.keepIn X.K (.ref f) = true)
    (hb : Binds X.K fd ps ds) (hd : Vals dvs ds) (hx : Passes cx X E)
    (hdb : (x == ("__debug__" : Str)) = false := by decide) : PE X (.Call (.Name x p) [] [] pos) (tCall sp dvs E tNil) := by
  constructor
  intro pins s σ H Q I h
  apply wpAny_Call_Name_kw
  apply ld_glob I hg hm _ hdb
  exact PySem.W.callWith_K0 I.kIn hk (runG (us := []) F quiet hr hb hd hx I .nil h)
end

/-! ### the law's own call -/
section
variable {P : Program} {w : World} {K : PySem.W.Frag} {mg mb : Str → Option Value} {cx : CXT} {k : Nat} {fa a : Addr} {fd : FuncData}
  {x : Str} {sp : Sp} {s₁ : Shared} {vs : List Value} {ns : List Int}
theorem law_goes (H : Hp) (hO : Only H) (hS : SqL K H a (ns.map V.int)) (hok : HOk P w H s₁.heap) (hA : ∀ b, H b ≠ none → b = a)
    (hK : H a ≠ none → K.lookup a = none)
    (KX : K.In s₁.heap) (hns : s₁.heap.Ns mainGlobals mg) (hb : s₁.heap.Ns builtinsNs mb)
    (hbb : ∀ x : Str, x ≠ "__name__" → mb x = bootBuiltins x) (hlim : s₁.heap.NoLimit) (hg : s₁.gens = #[])
    (ha : s₁.heap.get? a = some { cls := .type "list", data := .seq vs.toArray }) (hr : Room k callerA)
    (F : ∀ base : Heap, K.In base → base.Ns mainGlobals mg → FnG P w K mg base cx k fa fd [x] sp)
    (hbind : ∀ (s : Shared) (u : Value), BindsTo s fd ⟨[u], []⟩ [(x, u)])
    (hsp : sp [.ref a] H (fun v _ => v = .bl true) fun _ _ _ => False)
    (hcx : ∀ e s', cx [] H s₁ (fun _ _ _ => False) e s' → False) :
    codeAny (model P w) callerA (.call (.ref fa) ⟨[.ref a], []⟩)
      (fun r s' => r = .ok (.ret (.bool true)) ∧ OldK s₁.heap s'.heap ∧ s'.os = s₁.os ∧ AllBare s'.gens) s₁ := by
  have dictFree : ∀ b o es ep, s₁.heap.get? b = some o → o.data = .dict es ep → H b = none := by
    intro b o es ep e d
    by_cases q : H b = none
    · exact q
    · have := hA b q
      rw [this, ha] at e
      cases e
      cases (d : Data.seq vs.toArray _ = Data.dict es ep)
  have nsB : ∀ {b : Addr} {m : Str → Option Value}, s₁.heap.Ns b m → (hidT s₁.heap H).Ns b m := by
    rintro b m ⟨o, es, ep, e, d, r⟩
    exact ⟨o, es, ep, hidT_get e (dictFree b o es ep e d), d, r⟩
  have kB : K.In (hidT s₁.heap H) := by
    intro b o e
    refine hidT_get (KX b o e) ?_
    by_cases q : H b = none
    · exact q
    · have z := hA b q
      subst z
      rw [hK q] at e
      cases e
  obtain ⟨mc, l1, l2⟩ := hlim
  have M : Mod K mg (hidT s₁.heap H) := ⟨kB, nsB hns, ⟨mb, nsB hb, hbb⟩, mc, nsB l1, l2⟩
  have none0 : ∀ b : Addr, b ∉ frs ([] : List Env) := fun b z => by cases z
  have e0 : Env0 P w K mg (hidT s₁.heap H) callerA [] s₁ H :=
    ⟨rfl, M, fun b o e => of_hidT e, Nat.le_of_eq (hidT_size _ _), trivial, fun b z => (none0 b z).elim, hok, .of_eq hg⟩
  have main := (F _ kB (nsB hns)).go (A := callerA) (outer := []) (H := H) (args := ⟨[.ref a], []⟩) (us := [.ref a]) rfl hr e0 (hbind s₁ (.ref a))
    (vs := [.ref a]) (.cons rfl .nil) hsp
  refine codeAny_mono main ?_
  intro res s' hs
  cases res with
  | error e => exact (hcx e s' hs).elim
  | ok fl =>
    cases fl with
    | next => exact (hs : False).elim
    | brk => exact (hs : False).elim
    | cont => exact (hs : False).elim
    | ret u =>
      obtain ⟨v, H', os, bare, un, hok', r', q⟩ := hs
      cases (q : v = .bl true)
      cases (r' : u = Value.bool true)
      refine ⟨rfl, OldK.of_keep ?_, os, bare⟩
      intro b o e
      cases hO b with
      | inl q => exact un.keep b o e q (none0 b) (by simp)
      | inr q =>
        obtain ⟨ob, xs, z⟩ := q
        have f1 := (hok b _ z).1
        have f2 := (hok' b _ (un.frzs b ob _ z)).1
        rw [f1] at e
        cases e
        exact f2
theorem law_callG (KX : K.In s₁.heap) (hns : s₁.heap.Ns mainGlobals mg) (hb : s₁.heap.Ns builtinsNs mb)
    (hbb : ∀ x : Str, x ≠ "__name__" → mb x = bootBuiltins x) (hlim : s₁.heap.NoLimit) (hg : s₁.gens = #[])
    (ha : s₁.heap.get? a = some { cls := .type "list", data := .seq vs.toArray }) (hi : IntsAre vs ns) (hl : ns.length ≤ sizeLine) (hr : Room k callerA)
    (F : ∀ base : Heap, K.In base → base.Ns mainGlobals mg → FnG P w K mg base cx k fa fd [x] sp)
    (hbind : ∀ (s : Shared) (u : Value), BindsTo s fd ⟨[u], []⟩ [(x, u)])
    (hsp : ∀ H : Hp, Only H → SqL K H a (ns.map V.int) → sp [.ref a] H (fun v _ => v = .bl true) fun _ _ _ => False)
    (hcx : ∀ H e s', cx [] H s₁ (fun _ _ _ => False) e s' → False) :
    codeAny (model P w) callerA (.call (.ref fa) ⟨[.ref a], []⟩)
      (fun r s' => r = .ok (.ret (.bool true)) ∧ OldK s₁.heap s'.heap ∧ s'.os = s₁.os ∧ AllBare s'.gens) s₁ := by
  have rv := vals_ints hi
  cases hk : K.lookup a with
  | some o =>
    have e := KX a o hk
    rw [ha] at e
    cases e
    have hS : SqL K (fun _ => none) a (ns.map V.int) :=
      .inr ⟨_, vs.toArray, _, hk, rfl, rfl, rfl, by rw [List.size_toArray, hi.length]; exact hl, by simpa using rv⟩
    have hO : Only fun _ => none := fun _ => .inl rfl
    exact law_goes (fun _ => none) hO hS (fun b u z => nomatch z) (fun b z => (z rfl).elim) (fun z => (z rfl).elim) KX hns hb hbb hlim hg ha hr F hbind
      (hsp _ hO hS) (hcx _)
  | none =>
    let G : Hp := upd (fun _ => none) a (.frz { cls := .type "list", data := .seq vs.toArray } (.lst (ns.map V.int)))
    have atA : G a = some (.frz { cls := .type "list", data := .seq vs.toArray } (.lst (ns.map V.int))) := upd_same
    have off : ∀ b, b ≠ a → G b = none := fun b h => upd_ne h
    have hS : SqL K G a (ns.map V.int) := .inl (.inr ⟨_, atA⟩)
    have hO : Only G := fun b => by
      by_cases q : b = a
      · subst q
        exact .inr ⟨_, _, atA⟩
      · exact .inl (off b q)
    have hok : HOk P w G s₁.heap := by
      intro b u z
      by_cases q : b = a
      · subst q
        rw [atA] at z
        cases z
        exact ⟨ha, by rw [List.length_map]; exact hl, vs, _, rv, ha⟩
      · rw [off b q] at z
        cases z
    have hA : ∀ b, G b ≠ none → b = a := fun b z => by
      by_cases q : b = a
      · exact q
      · exact (z (off b q)).elim
    exact law_goes G hO hS hok hA (fun _ => hk) KX hns hb hbb hlim hg ha hr F hbind (hsp _ hO hS) (hcx _)
end
/-- a law's row by its def's promise -/
theorem walkG {l : PySem.W.OpenLaw} {n k : Nat} {q : Program} {loose : List Str} {XP : (Str → Option Value) → Heap → Prop}
    {YP : World → Heap → Prop} {d : DefRec} {K : Params → PySem.W.Frag} {cx : World → CXT} {sp : World → Sp} {x : Str}
    (hn : l.most = some n) (hn2 : n ≤ sizeLine) (hdf : d.params.defaults = []) (hr : Room k callerA)
    (hY : ∀ (w : World) (h : Heap), YP w h → (K w.params).In h)
    (F : ∀ (w : World) (mg : Str → Option Value) (fa : Addr) (h : Heap), (K w.params).In h → h.Ns mainGlobals mg → mg d.name = some (.ref fa) →
      ∃ fd : FuncData, (∀ (s : Shared) (u : Value), BindsTo s fd ⟨[u], []⟩ [(x, u)]) ∧
        ∀ base : Heap, (K w.params).In base → base.Ns mainGlobals mg → FnG l.prog w (K w.params) mg base (cx w) k fa fd [x] (sp w))
    (hsp : ∀ (w : World) (H : Hp) (a : Addr) (ns : List Int), ns.length ≤ n → Only H → SqL (K w.params) H a (ns.map V.int) →
      sp w [.ref a] H (fun v _ => v = .bl true) fun _ _ _ => False)
    (hcx : ∀ (w : World) (H : Hp) (s : Shared) (e : Value) (s' : Shared), cx w [] H s (fun _ _ _ => False) e s' → False) :
    PySem.W.WalkO q loose XP YP l.row.toRowW d [] (fun f vs => PySem.call f vs) := by
  apply Att.attach_call hn hdf
  intro w s₀ s₁ mg mb fa o pm cd doc a vs ns G Y ho hd hcd hmg hobj hints hlen hgens
  have KX := hY w _ Y
  obtain ⟨fd, hb, hF⟩ := F w mg fa _ KX G.T.g hmg
  exact law_callG KX G.T.g G.T.b G.T.builtins G.T.nolimit hgens hobj hints (Nat.le_trans hlen hn2) hr hF hb
    (fun H hO hS => hsp w H a ns hlen hO hS) fun H e s' => hcx w H s₁ e s'

/-! ### repr -/
/-- a key as data -/
def kD : Key → PyData
  | .inl i => .int i
  | .inr x => .str x
/-- a value that is no object, as data -/
def flatD : V → PyData
  | .bl b => .bool b
  | .int i => .int i
  | .str x => .str x
  | _ => .none
def isFlat : V → Bool
  | .non | .bl _ | .int _ | .str _ => true
  | _ => false
/-- an item that is no object, or a dict of values that are no objects -/
inductive Mix1 (H : Hp) : V → PyData → Prop
  | flat {v : V} : isFlat v = true → Mix1 H v (flatD v)
  | dic {a : Addr} {kvs : List (Key × V)} : H a = some (.dK kvs) → (kvs.all fun p => isFlat p.2) = true → Mix1 H (.ref a) (.dict (kvs.map fun p => (kD p.1, flatD p.2)))
inductive MixAll (H : Hp) : List V → List PyData → Prop
  | nil : MixAll H [] []
  | cons {v : V} {vs : List V} {d : PyData} {ds : List PyData} : Mix1 H v d → MixAll H vs ds → MixAll H (v :: vs) (d :: ds)
/-- what stands at a value: data, or a dict of values that are no objects, or a tuple with such dicts -/
inductive ShD (K : PySem.W.Frag) (H : Hp) : V → PyData → Prop
  | data {v : V} {d : PyData} : Dp K H v d → ShD K H v d
  | mix {v : V} {d : PyData} : Mix1 H v d → ShD K H v d
  | tup {a : Addr} {xs : List V} {ds : List PyData} : SqT K H a xs → MixAll H xs ds → ShD K H (.ref a) (.tuple ds)
/-- repr(x) of data x -/
def rRepr (K : PySem.W.Frag) : List V → Hp → VK → Prop := fun xs H Q => ∃ x d, xs = [x] ∧ ShD K H x d ∧ d.showable = true ∧ d.depth ≤ 60 ∧
  d.shown.length ≤ sizeLine ∧ Q (.str d.shown) H
theorem Dp.noDict {K : PySem.W.Frag} {H : Hp} : ∀ (d : PyData) (v : V), Dp K H v d → d.hasDict = false := by
  intro d v h
  induction h using Dp.rec (motive_2 := fun vs ds _ => PyData.hasDictAll ds = false) with
  | non => rfl
  | bl => rfl
  | int => rfl
  | str => rfl
  | lst _ _ ih => simpa only [PyData.hasDict] using ih
  | tup _ _ ih => simpa only [PyData.hasDict] using ih
  | nil => rfl
  | cons _ _ h1 h2 => simp only [PyData.hasDictAll, h1, h2, Bool.or_self]
theorem reads_flat {h : Heap} {v : V} {u : Value} (f : isFlat v = true) (r : RelV v u) : Reads h u (flatD v) [] := by
  cases v with
  | non => cases r; exact .none
  | bl b => cases r; exact .bool b
  | int i => obtain ⟨t, rfl⟩ := r; exact .int i t
  | str x => obtain ⟨t, rfl⟩ := r; exact .str x t
  | _ => cases f
theorem reads_key {P : Program} {w : World} {h : Heap} {k : Key} {u : Value} (r : (mixKind P w).is k u = true) : Reads h u (kD k) [] := by
  rcases keyIs_shape r with ⟨i, t, rfl, rfl⟩ | ⟨x, t, rfl, rfl⟩
  · exact .int i t
  · exact .str x t
theorem reads_dic {P : Program} {w : World} {h : Heap} : ∀ {kvs : List (Key × V)} {vs : List (Key × Value)} {es : List DictEntry}, (kvs.all fun p => isFlat p.2) = true →
    KV kvs vs → Pairs (mixKind P w) es vs →
    ReadsAll h (es.map (·.key)) (kvs.map fun p => kD p.1) [] ∧ ReadsAll h (es.map (·.val)) (kvs.map fun p => flatD p.2) [] := by
  intro kvs vs es f kv pr
  induction pr generalizing kvs with
  | nil =>
    cases kv
    exact ⟨.nil, .nil⟩
  | cons hk hv _ ih =>
    cases kv with
    | cons h1 h2 =>
      simp only [List.all_cons, Bool.and_eq_true] at f
      obtain ⟨i1, i2⟩ := ih f.2 h2
      obtain ⟨e1, e2⟩ := h1
      constructor
      · exact ReadsAll.cons (as := []) (by dsimp only; rw [e1]; exact reads_key hk) i1
      · exact ReadsAll.cons (as := []) (by dsimp only; rw [hv]; exact reads_flat f.1 e2) i2
section
variable {X : Cx} {pins : List (Addr × Obj)} {σ : L2.St} {H : Hp} {s : Shared}
theorem Mix1.reads {v : V} {u : Value} {d : PyData} (I : Inv X pins σ H s) (h : Mix1 H v d) (r : RelV v u) : ∃ as, Reads s.heap u d as ∧ sysModules ∉ as := by
  cases h with
  | flat f => exact ⟨[], reads_flat f r, by simp⟩
  | @dic a kvs ha f =>
    cases r
    obtain ⟨_, ne, vs, kv, o, es, ep, h1, h2, h3, _, h5, _⟩ := I.hok a _ ha
    obtain ⟨q1, q2⟩ := reads_dic (h := s.heap) f kv h5
    refine ⟨_, Reads.dict h1 h2.1 h3 (by simpa only [List.map_map, Function.comp_def] using q1) (by simpa only [List.map_map, Function.comp_def] using q2), ?_⟩
    intro hm
    simp at hm
    simp [hm] at ne
theorem MixAll.reads (I : Inv X pins σ H s) : ∀ {vs : List V} {us : List Value} {ds : List PyData}, MixAll H vs ds → Vals vs us → ∃ as, ReadsAll s.heap us ds as ∧ sysModules ∉ as
  | _, _, _, .nil, .nil => ⟨[], .nil, by simp⟩
  | _, _, _, .cons h t, .cons r rt => by
    obtain ⟨as, q1, n1⟩ := h.reads I r
    obtain ⟨bs, q2, n2⟩ := MixAll.reads I t rt
    exact ⟨_, .cons q1 q2, by simp [n1, n2]⟩
theorem ShD.reads {v : V} {u : Value} {d : PyData} (I : Inv X pins σ H s) (h : ShD X.K H v d)
    (r : RelV v u) : ∃ as, Reads s.heap u d as ∧ (d.hasDict = true → sysModules ∉ as) := by
  cases h with
  | data h =>
    obtain ⟨as, q⟩ := Dp.reads I d v u h r
    exact ⟨as, q, fun z => by rw [Dp.noDict _ _ h] at z; cases z⟩
  | mix h =>
    obtain ⟨as, q, n⟩ := h.reads I r
    exact ⟨as, q, fun _ => n⟩
  | tup hs ha =>
    cases r
    obtain ⟨its, rv, ⟨o, ho, hc, n, hd⟩, _⟩ := I.tuple hs
    obtain ⟨as, hr, ns⟩ := MixAll.reads I ha rv
    exact ⟨_, Reads.tuple ho hc hd hr, fun _ => ns⟩
end
theorem call_repr {X : Cx} (quiet : Quiet X.A) (hu : X.A.units + 64 < cLine) : CallR X (.builtin "repr") (rRepr X.K) := by
  intro pins s σ H xs us Q I r h
  obtain ⟨x, d, rfl, hd, hs, hdep, hz, q⟩ := h
  obtain ⟨u, rfl, ru⟩ := vals1 r
  obtain ⟨as, rd, ns⟩ := hd.reads I ru
  have obj : ∀ a, u = .ref a → wpAny (model X.prog X.w) X.A (call (.builtin "repr") [u]) (EP X pins σ Q) X.xe s := by
    intro a e
    subst e
    exact repr_of_reads' rd hs ns quiet (by omega) (fun _ _ e => e) (fun h' u tk hk => ⟨.str _, H, I.kept hk, ⟨_, rfl⟩, q⟩) hz
  cases rd with
  | none => exact PySem.P.repr_of_none ⟨.str _, H, I.tok _, ⟨_, rfl⟩, q⟩
  | bool b => exact PySem.P.repr_of_bool ⟨.str _, H, I.tok _, ⟨_, rfl⟩, q⟩
  | int i t => exact PySem.P.repr_of_int (by simpa [PyData.showable] using hs) ⟨.str _, H, I.tok _, ⟨_, rfl⟩, q⟩
  | str y t => exact PySem.P.repr_of_str ⟨.str _, H, I.tok _, ⟨_, rfl⟩, q⟩ hz
  | list _ _ _ _ => exact obj _ rfl
  | tuple _ _ _ _ => exact obj _ rfl
  | dict _ _ _ _ _ => exact obj _ rfl
end GL

/-! errors of the text's own with one field, over any base; the first store into such an object; isinstance of a caught one -/
namespace GL
open PySem L2 PySem.Spec PyProof.Rows PySem.W Builtin Builtin.ObjectAttr

section
variable {prog : Program} {w : World} {A : Around} {R : Result → Shared → Prop} {K : Frag} {B : String} {bmB : List Value}
/-- the first attribute of an error -/
theorem first_store {s : Shared} {name : Str} {tk : Tok} {v : Value} {x C t0 : Addr} (SF : StoreFacts B bmB "object.__setattr__" "object") (X : K.In s.heap)
    (hx : s.heap.get? x = some (HandSPX.excO C t0)) (over : excOver K C bmB = true) (tk0 : takerIn K C name = some none) (hd : hasDictIn K C = true)
    (hq : ∀ h' tk' dx, (∀ b o, b ≠ x → s.heap.get? b = some o → h'.get? b = some o) → s.heap.objs.size ≤ dx → dx ≠ x →
      h'.get? x = some { cls := .ref C, dict := some dx, data := .fields #[.ref t0, .none, .none, .none, .bool false, .none] } →
      h'.Ns1 dx (fun y => if y = name then some v else none) → R (.ok (.ret .none)) { s with heap := h', toks := tk' }) :
    codeAny (model prog w) A (.call (.builtin "object.__setattr__") ⟨[.ref x, .str name tk, v], []⟩) R s := by
  refine osa_openX (ox := HandSPX.excO C t0) (od := none) SF X ⟨hx, rfl, rfl, trivial⟩ over tk0 fun b => ?_
  unfold hasDictIn at hd
  obtain ⟨cd, hc, hd'⟩ := any_some hd
  have small : x < s.heap.objs.size := Heap.lt_size hx
  have ne : x ≠ s.heap.objs.size := Nat.ne_of_lt small
  obtain ⟨hp, g, d, t, os⟩ := s
  refine wpAny_bind (wpAny_pure (wpAny_bind (instanceDict_exc (t := t0) (c2 := .none) hx (looks_clsIn X hc) hd' ?_)))
  show wpAny _ _ (storeInDict hp.objs.size (.str name tk) name v) _ _ _
  refine HandSPX.store_in_new ?_ ?_
  · exact ⟨_, #[], _, (Heap.get?_update_ne _ _ _ _ ne.symm).trans (Heap.get?_push_at rfl rfl), rfl, fun e he => absurd he (by simp), fun _ => rfl⟩
  · intro h' tk' hn same
    refine hq h' tk' hp.objs.size (fun b o hb ho => ?_) (Nat.le_refl _) ne.symm ?_ hn
    · exact (same.2 b (Nat.ne_of_lt (Heap.lt_size ho))).trans ((Heap.get?_update_ne _ _ _ _ hb).trans (Heap.get?_push_of_some _ ho))
    · exact (same.2 x ne).trans (Heap.get?_update_self _ (Heap.get?_push_of_some _ hx) rfl)
end

/-- the shape of __init__: the one parameter is stored under its own name -/
structure Init1 (st : Stmt) (qual fld : Str) : Prop where
  body : ∃ q1 q2 q3 q4, defBody st = [.Assign [.Attribute (.Name "self" q1) fld q2] (.Name fld q3) q4]
  n1 : List.lookup (Str.ofString "self") (defScope st).names = some NameKind.local
  n2 : List.lookup fld (defScope st).names = some NameKind.local
  kind : (defScope st).kind = .function
  co : (defScope st).isCoroutine = false
  gen : (defScope st).isGenerator = false
  ne : fld ≠ "self"
  dbg : (fld == ("__debug__" : Str)) = false
  bind : ∀ (doc pm : Value) (an : Option Addr) (cdv ct a v : Value), bindArgs (fnOf "__init__" qual (defArgs st) (defBody st) (defScope st) .none .none doc pm an cdv ct) ⟨[a, v], []⟩ = pure [(Str.ofString "self", a), (fld, v)]
  k1 : ∀ (L f : Addr) (cd : Value), (envOfC qual (defScope st) L f cd).kindOf "self" = some .local
  k2 : ∀ (L f : Addr) (cd : Value), (envOfC qual (defScope st) L f cd).kindOf fld = some .local
  sw : ∀ (L f : Addr) (cd : Value) (q1 q2 q3 q4 : Pos), swapsWith (.Name fld q3) (some (.Attribute (.Name "self" q1) fld q2)) q4.line (envOfC qual (defScope st) L f cd) = pure false

/-- what the text says of an error class x with the one field fld, over the built-in class B -/
structure ErrTxt (K : Frag) (mg : Str → Option Value) (C fI : Addr) (x fld : Str) (B newId : String) (bmB : List Value) : Prop where
  gC : mg x = some (.ref C)
  cls : ∃ nm q N bs bm sn sub ab col dd k0 k1 k2 k3 k5, K.lookup C = some (excClassObj nm q C N bs bm true sn sub ab col dd k0 k1 k2 k3 k5 newId) ∧ excTail bmB bm = true
  FB : ∃ initId, ExcBaseFacts B newId initId bmB
  SF : StoreFacts B bmB "object.__setattr__" "object"
  over : excOver K C bmB = true
  sa : findIn K (.ref C) "__setattr__" = some (some (.builtin "object.__setattr__"))
  ga : findIn K (.ref C) "__getattribute__" = some (some (.builtin "BaseException.__getattribute__"))
  gg : findIn K (.ref C) "__getattr__" = some none
  noN : findIn K (.ref C) fld = some none
  iC : findIn K (.ref C) "__init__" = some (some (.ref fI))
  tC : typeIn K (.ref fI) = some (.type "function")
  kC : keepIn K (.ref C) = true
  exC : subIn K (.ref C) (.type "BaseException") = some true
  tyC : typeIn K (.ref C) = some (.type "type")
  hdC : hasDictIn K C = true
  te : exmOne K (.ref C) (.ref C) = some true
  cc : findIn K (.ref C) "__class__" = some (some (.builtin "object.__class__"))
  cn : specialIn K (.builtin "object.__class__") "__get__" = some (some (.builtin "getset_descriptor.__get__"))
  ct : takesIn K (.builtin "object.__class__") = some true
  cm : mroIn K C (.type "object") = some true
  fn : ∃ (oc : Value) (od : Option Addr) (doc pm : Value) (an : Option Addr) (cdv ct : Value) (osl : Array (Option Value)) (st : Stmt) (qual : Str),
    K.lookup fI = some ⟨oc, od, .func (fnOf "__init__" qual (defArgs st) (defBody st) (defScope st) .none .none doc pm an cdv ct), osl⟩ ∧ codeIn K cdv qual = true ∧ Init1 st qual fld

theorem one_le (v : Value) : [v].length ≤ sizeLine := by
  rw [sizeLine_eq]
  exact (by decide : 1 ≤ 16777216)
/-- what __init__ leaves -/
structure InitLeft (h h' : Heap) (x C dx t1 : Addr) (fld : Str) (v : Value) : Prop where
  keep : ∀ b o, b ≠ x → h.get? b = some o → h'.get? b = some o
  obj : h'.get? x = some { cls := .ref C, dict := some dx, data := .fields #[.ref t1, .none, .none, .none, .bool false, .none] }
  dbig : h.objs.size ≤ dx
  dne : dx ≠ x
  ns : h'.Ns1 dx (fun y => if y = fld then some v else none)
/-- a made error -/
structure ErrMade (h h' : Heap) (e C d : Addr) (fld : Str) (v : Value) : Prop where
  keep : ∀ b o, h.get? b = some o → h'.get? b = some o
  new : h.objs.size ≤ e
  obj : ∃ oe vs, h'.get? e = some oe ∧ oe.cls = .ref C ∧ oe.dict = some d ∧ oe.data = .fields vs ∧ vs[1]? = some .none
  dbig : h.objs.size ≤ d
  dne : d ≠ e
  ns : h'.Ns1 d (fun y => if y = fld then some v else none)
section
variable {prog : Program} {w : World} {A : Around} {E : Value → Shared → Prop} {R : Result → Shared → Prop} {s : Shared} {K : Frag} {mg : Str → Option Value} {C fI : Addr}
  {x fld : Str} {B newId : String} {bmB : List Value}
theorem ld_local {M : Model} {name : Str} {scope : Scope} {L a : Addr} {cd : Value} {m : Str → Option Value} {y : Str} {pos : Pos} {v : Value} {Q : Value → Shared → Prop}
    (hn : s.heap.Ns L m) (hv : m y = some v) (h : Q v s) (hk : scope.kind = .function) (hl : (envOfC name scope L a cd).kindOf y = some .local) (hd : (y == ("__debug__" : Str)) = false) :
    wpAny M A (eval (.Name y pos) (envOfC name scope L a cd)) Q E s := wpAny_Name (wpAny_loadName_local hk hl hn hv h) hd
theorem err_init (T : ErrTxt K mg C fI x fld B newId bmB) {e t0 : Addr} {v : Value} (X : K.In s.heap) (hlim : s.heap.NoLimit) (hx : s.heap.get? e = some (HandSPX.excO C t0))
    (hnx : K.lookup e = none) (hroom : A.depth < recursionLimit)
    (hq : ∀ h' tk dx, InitLeft s.heap h' e C dx t0 fld v → R (.ok (.ret .none)) { s with heap := h', toks := tk }) :
    codeAny (model prog w) A (.call (.ref fI) ⟨[.ref e, v], []⟩) R s := by
  obtain ⟨oc, od, doc, pm, an, cdv, ct, osl, st, qual, ho, hcd, S⟩ := T.fn
  obtain ⟨q1, q2, q3, q4, hbody⟩ := S.body
  refine Att.call_fn (binds := [(Str.ofString "self", .ref e), (fld, v)]) X hlim ho hcd hroom (BindsTo.of_eq (S.bind doc pm an cdv ct (.ref e) v)) ?_ (fun s₁ IC => ?_) S.co S.gen S.kind
  · simp [S.n1, S.n2]
  obtain ⟨h₁, tk₁, rfl⟩ := IC.toInCall.same
  have k : ∀ b o, s.heap.get? b = some o → h₁.get? b = some o := IC.toInCall.keep
  have hn := IC.toInCall.ns
  have neL : s.heap.objs.size ≠ e := Nat.ne_of_gt (Heap.lt_size hx)
  have X₁ : K.In h₁ := X.keeps k
  have hx₁ := k _ _ hx
  rw [hbody]
  refine wpAny_execs_cons (plainObj_wpAny_Assign_Attribute ?_ (S.sw _ _ _ _ _ _ _))
  refine ld_local (v := v) hn ?_ (ld_local (v := .ref e) hn ?_ ?_ S.kind (S.k1 _ _ _) (by decide)) S.kind (S.k2 _ _ _) S.dbg
  · simp [bindL, S.k1, S.k2]
  · simp [bindL, S.k1, S.k2, Ne.symm S.ne]
  refine set_plain X₁ (ox := HandSPX.excO C t0) (od := none) ⟨hx₁, rfl, rfl, trivial⟩ T.sa ?_
  refine first_store (s := ⟨h₁, s.gens, s.drawn, tk₁ + 1, s.os⟩) T.SF X₁ hx₁ T.over (by unfold takerIn; rw [T.noN]; rfl) T.hdC (fun h₃ tk₃ dx k₃ dn dne hx₃ hn₃ => ?_)
  show wpAny _ _ (execs _ _) _ _ _
  have z : s.heap.objs.size < h₁.objs.size := hn.lt
  exact wpAny_execs_nil (hq h₃ tk₃ dx ⟨fun b o hb q => k₃ b o hb (k b o q), hx₃, Nat.le_of_lt (Nat.lt_of_lt_of_le z dn), dne, hn₃⟩)
theorem err_made (T : ErrTxt K mg C fI x fld B newId bmB) {v : Value} (X : K.In s.heap) (hlim : s.heap.NoLimit) (hroom : A.depth + 1 < recursionLimit)
    (hq : ∀ h' tk e d, ErrMade s.heap h' e C d fld v → R (.ok (.ret (.ref e))) { s with heap := h', toks := tk }) :
    codeAny (model prog w) A (.call (.ref C) ⟨[v], []⟩) R s := by
  obtain ⟨nm, q, N, bs, bm, sn, sub, ab, col, dd, k0, k1, k2, k3, k5, hC, hbm⟩ := T.cls
  obtain ⟨initId, FB⟩ := T.FB
  obtain ⟨hp, g, dr, tk, os⟩ := s
  have k : ∀ b o, hp.get? b = some o → ((hp.push (kdv_tup [v])).push (HandSPX.excO C hp.objs.size)).get? b = some o := fun b o q =>
    Heap.get?_push_of_some _ (Heap.get?_push_of_some _ q)
  have here : ((hp.push (kdv_tup [v])).push (HandSPX.excO C hp.objs.size)).get? (hp.objs.size + 1) = some (HandSPX.excO C hp.objs.size) := by heap_get
  have fresh : K.lookup (hp.objs.size + 1) = none := by
    cases q : K.lookup (hp.objs.size + 1) with
    | none => rfl
    | some o => exact absurd (Nat.lt_of_succ_lt (Heap.lt_size (X _ _ q : hp.get? (hp.objs.size + 1) = some o))) (Nat.lt_irrefl _)
  refine HandSPX.call_own FB (fun Y => excTail_contains Y bm hbm) (X _ _ hC) (looks_findIn X T.iC) (fun self => bind_fn X self T.tC) (one_le v) ?_
  refine err_init (s := ⟨(hp.push (kdv_tup [v])).push (HandSPX.excO C hp.objs.size), g, dr, tk, os⟩) T (X.keeps k) (hlim.keeps k) here fresh ?_ ?_
  · exact hroom
  · rintro h' tk' dx ⟨k', hx, dn, dne, hns⟩
    have big : hp.objs.size + 1 + 1 ≤ dx := by
      have q := dn
      rw [Heap.size_push, Heap.size_push] at q
      exact q
    refine ⟨rfl, hq h' tk' (hp.objs.size + 1) dx ⟨fun b o q => ?_, Nat.le_succ _, ⟨_, _, hx, rfl, rfl, rfl, rfl⟩, Nat.le_trans (Nat.le_trans (Nat.le_succ _) (Nat.le_succ _)) big, dne, hns⟩⟩
    exact k' b o (Nat.ne_of_lt (Nat.lt_succ_of_lt (Heap.lt_size q))) (k b o q)
end

theorem relO_one {fld : Str} {v : V} {v' : Value} (r : RelV v v') (f : Str) : RelO (List.lookup f [(fld, v)]) (if f = fld then some v' else none) := by
  by_cases hw : f = fld
  · subst hw
    rw [if_pos rfl]
    simp only [List.lookup, BEq.rfl]
    exact r
  · rw [if_neg hw]
    have q : (f == fld) = false := by simpa using hw
    simp only [List.lookup, q]
    trivial
section
variable {X : Cx} {C fI : Addr} {x fld : Str} {B newId : String} {bmB : List Value}
/-- x(e), an error's making -/
def tErr (C : Addr) (fld : Str) (ta : TA) : L2.St → Hp → XK → Prop := fun σ H Q => ta σ H fun vs H1 => ∃ v, vs = [v] ∧ ∀ d, H1 d = none → Q (.ref C) (some d) (upd H1 d (.xd [(fld, v)]))
theorem pmk_err {a : Expr} {ta : TA} {p pos : Pos} {k : Nat} (T : ErrTxt X.K X.mg C fI x fld B newId bmB) (hr : Room k X.A) (ha : PA X [a] ta) (hg : Gl X x := by rfl)
    (hdb : (x == ("__debug__" : Str)) = false := by decide)
    (he : starEach (a :: []) X.env = (false, eval a X.env) :: starEach [] X.env := by rfl) (hpl : (backTo pos (starEach [] X.env)).any (·.1) = false := by rfl) :
    PMk X (.Call (.Name x p) [a] [] pos) (tErr C fld ta) := by
  intro pins s σ H Q I h
  refine wpAny_Call_Name_kw (ld_glob I hg T.gC ?_ hdb)
  refine callWith_K (h₀ := X.base) I.ok.mod.kin T.kC (thn (ha.run pos pins s σ H _ I h) ?_) he hpl
  rintro us s1 ⟨vs, H1, I1, r1, v, ev, q1⟩
  subst ev
  refine ⟨I1.kIn, ?_⟩
  obtain ⟨v', rfl, rv⟩ := vals1 r1
  show wpAny _ _ (call (.ref C) [v']) _ _ _
  have hlim := I1.nolimit
  have room : X.A.depth + 1 < recursionLimit := by
    have := hr.dp
    omega
  obtain ⟨hp, g, dr, tk, os⟩ := s1
  refine wpAny_call (err_made T I1.kIn hlim room ?_)
  intro h' tk' e d M
  show MkP X pins σ Q (.ref e) ⟨h', g, dr, tk', os⟩
  obtain ⟨oe, fv, hoe, hc, hd, hdat, h1⟩ := M.obj
  obtain ⟨G', g1, g2⟩ := restrict h' fun b => decide (b ≠ e)
  have gk : ∀ b, b ≠ e → G'.get? b = h'.get? b := fun b hb => g1 b (decide_eq_true hb)
  have ge : G'.get? e = none := g2 e (by simp)
  have old : ∀ b o, hp.get? b = some o → G'.get? b = some o := fun b o q =>
    (gk b (Nat.ne_of_lt (Nat.lt_of_lt_of_le (Heap.lt_size q) M.new))).trans (M.keep b o q)
  have hns := M.ns
  have laid : ObjOk X.prog X.w (upd H1 d (.xd [(fld, v)])) G' d (.xd [(fld, v)]) :=
    ⟨_, hns.at (fun o q => (gk d M.dne).trans q), fun f => relO_one rv f⟩
  have J : Inv X pins σ (upd H1 d (.xd [(fld, v)])) ⟨G', g, dr, tk', os⟩ := I1.laid (t' := tk') old M.dbig laid
  refine ⟨e, oe, fv, ⟨G', g, dr, tk', os⟩, _, .ref C, some d, rfl, J, ?_, ge, hoe, ⟨hc, hd⟩, hdat, h1, ?_, rfl, I1.bare, raises_own T.exC T.tyC, q1 d (I1.hok.fresh M.dbig)⟩
  · intro b o q
    have q' : G'.get? b = some o := q
    by_cases hb : b = e
    · rw [hb, ge] at q'
      cases q'
    · exact (gk b hb).symm.trans q'
  · rw [upd_ne (Ne.symm M.dne)]
    exact I1.hok.fresh M.new
/-- raise x(e) -/
def tRaiseErr (C : Addr) (fld : Str) (W : WX) (ta : TA) : TS := fun _ σ H => tErr C fld ta σ H fun cls d H' => W cls d σ H'
theorem ps_raiseErr {a : Expr} {ta : TA} {W : WX} {p pos pos2 : Pos} {k : Nat} (hc : X.calm = true) (T : ErrTxt X.K X.mg C fI x fld B newId bmB) (hr : Room k X.A)
    (tk : Takes X W) (ha : PA X [a] ta) (hg : Gl X x := by rfl) (hdb : (x == ("__debug__" : Str)) = false := by decide)
    (he : starEach (a :: []) X.env = (false, eval a X.env) :: starEach [] X.env := by rfl) (hpl : (backTo pos (starEach [] X.env)).any (·.1) = false := by rfl) :
    PS X (.Raise (some (.Call (.Name x p) [a] [] pos)) none pos2) (tRaiseErr C fld W ta) := ps_raise hc tk (pmk_err T hr ha hg hdb he hpl)
/-- e.fld, e the error that the suite holds (at a; its class cls, its dict d) -/
def tErrFld (C : Addr) (fld : Str) (a : Addr) (cls : Value) (d : Option Addr) (te : TE) : TE := fun σ H Q => te σ H fun x H1 => x = .ref a ∧ cls = .ref C ∧ ∃ (dd : Addr) (v : V), d = some dd ∧
  H1 dd = some (.xd [(fld, v)]) ∧ Q v H1
theorem pe_errFld {a : Addr} {oe : Obj} {cls : Value} {d : Option Addr} {pn : List (Addr × Obj)} {e : Expr} {te : TE} {pos : Pos} (T : ErrTxt X.K X.mg C fI x fld B newId bmB)
    (hz : Zc cls d oe) (hf : ∃ vs, oe.data = .fields vs) (he : PE (X.suite a ((a, oe) :: pn)) e te)
    (hb : attributeBase e fld X.env (eval e X.env) = eval e X.env := by rfl) :
    PE (X.suite a ((a, oe) :: pn)) (.Attribute e fld pos) (tErrFld C fld a cls d te) := by
  constructor
  intro pins s σ H Q I h
  refine attr_of hb (thn (he.run pins s σ H _ I h) ?_)
  rintro u s1 ⟨y, H1, I1, ry, ey, ec, dd, v, ed, ea, q⟩
  subst ey ec ed
  obtain rfl : u = Value.ref a := ry
  obtain ⟨ha, _⟩ := I1.pin (a, oe) (List.mem_append_left _ List.mem_cons_self)
  obtain ⟨vs, hd⟩ := hf
  obtain ⟨mA, hns, hr⟩ := (show ObjOk X.prog X.w H1 s1.heap dd (.xd [(fld, v)]) from I1.hok dd _ ea)
  obtain ⟨od, ho, hl⟩ := lookIn_ns hns
  have l : List.lookup fld [(fld, v)] = some v := by simp [List.lookup]
  obtain ⟨u, hu, ru⟩ := RelO.some_of (v := v) (o := mA fld) (by rw [← l]; exact hr fld)
  have J : W.InstAt s1.heap a oe C (some od) := ⟨ha, hz.1, by unfold notCls; rw [hd] <;> rfl, by rw [hz.2]; exact ho⟩
  exact HandSPX.exc_get I1.kIn J T.ga T.gg T.exC (findObj_own T.hdC T.noN rfl (by rw [hl, hu])) (handed_of ru) ⟨v, H1, I1.tok _, ru, q⟩
/-- isinstance(e, c), e the error that the suite holds -/
def rErrIs (K : Frag) (C a : Addr) (cls : Value) (d : Option Addr) : List V → Hp → VK → Prop := fun xs H Q => ∃ (c : V) (u : Value) (b : Bool) (dd : Addr) (v : V) (fld : Str), xs = [.ref a, c] ∧ cls = .ref C ∧ d = some dd ∧
  H dd = some (.xd [(fld, v)]) ∧ ClsV c u ∧ kitOne K (.ref C) u = some b ∧ Q (.bl b) H
theorem call_errIs {a : Addr} {oe : Obj} {cls : Value} {d : Option Addr} {pn : List (Addr × Obj)} (T : ErrTxt X.K X.mg C fI x fld B newId bmB)
    (hz : Zc cls d oe) (hf : ∃ vs, oe.data = .fields vs) : CallR (X.suite a ((a, oe) :: pn)) (.builtin "isinstance") (rErrIs X.K C a cls d) := by
  intro pins s σ H xs us Q I r h
  obtain ⟨c, u, b, dd, v, fld, rfl, ec, ed, ea, k, e, q⟩ := h
  subst ec ed
  obtain ⟨u1, u2, rfl, r1, r2⟩ := vals2 r
  cases (show u1 = Value.ref a from r1)
  have e2 := k.eq r2
  subst e2
  obtain ⟨ha, _⟩ := I.pin (a, oe) (List.mem_append_left _ List.mem_cons_self)
  obtain ⟨vs, hd⟩ := hf
  obtain ⟨mA, hns, hr⟩ := (show ObjOk X.prog X.w H s.heap dd (.xd [(fld, v)]) from I.hok dd _ ea)
  obtain ⟨od, ho, hl⟩ := lookIn_ns hns
  have J : W.InstAt s.heap a oe C (some od) := ⟨ha, hz.1, by unfold notCls; rw [hd] <;> rfl, by rw [hz.2]; exact ho⟩
  have ic : (clsIn X.K C).isSome = true := by
    have h0 := T.hdC
    unfold hasDictIn at h0
    obtain ⟨cd, hc, _⟩ := any_some h0
    rw [hc]
    rfl
  exact kia_one (kitx_exc ic T.ga T.gg T.exC T.cc T.cn T.ct T.cm) I.kIn J e (fun z => nomatch z) fun tk => ⟨.bl b, H, I.tok tk, rfl, q⟩
end
end GL

/-! a def of the text with its name; operators on great integers; what kind a value is -/
namespace GL
open PySem L2 PySem.Spec PyProof.Rows

/-- a def of the text: where it stands, what its name holds, how its arguments bind -/
structure Df (K : PySem.W.Frag) (mg : Str → Option Value) (x : Str) (st : Stmt) (ps : List Str) (f : Addr) (fd : FuncData) : Prop where
  F : Fun K x x st f fd
  g : mg x = some (.ref f)
  b : Binds K fd ps []

section
variable {X : Cx}
theorem iop_mulW : OpR X (inplaceOp .Mult) (rI CMulW fun i j => .int (i * j)) := opI fun _ _ _ _ _ _ _ hc q => imul_int q hc.ok
/-- i ** j, together below 2 ^ 27 bits -/
def CPowW (i j : Int) : Prop := 0 ≤ j ∧ (Builtin.Int.intBits i : Int) * j ≤ 2 ^ 27
theorem op_powW : OpR X (binaryOp .Pow) (rI CPowW fun i j => .int (i ^ j.toNat)) := opI fun _ _ _ _ _ _ _ hc q => pow_int hc.1 hc.2 q
end

/-- what stands at a value, as far as isinstance(.., int), (.., bool), (.., tuple) see it; an integer's value -/
inductive Kd (K : PySem.W.Frag) (H : Hp) : V → Option Int → Prop
  | non : Kd K H .non none
  | bl (b : Bool) : Kd K H (.bl b) none
  | int (i : Int) : Kd K H (.int i) (some i)
  | str (x : Str) : Kd K H (.str x) none
  | lst {a : Addr} {xs : List V} : SqL K H a xs → Kd K H (.ref a) none
  | tup {a : Addr} {xs : List V} : SqT K H a xs → Kd K H (.ref a) none
  | dic {a : Addr} {kvs : List (Key × V)} : H a = some (.dK kvs) → Kd K H (.ref a) none
theorem tyx_lst {K : PySem.W.Frag} {H : Hp} {a : Addr} {xs : List V} (h : SqL K H a xs) : TyX K H (.ref a) (.type "list") := by
  rcases h with (h | ⟨o, h⟩) | ⟨o, its, n, h1, h2, _⟩
  · exact .base (.lst h)
  · exact .base (.frz h)
  · exact .kList h1 h2
theorem tyx_tup {K : PySem.W.Frag} {H : Hp} {a : Addr} {xs : List V} (h : SqT K H a xs) : TyX K H (.ref a) (.type "tuple") := by
  rcases h with (h | ⟨o, h⟩) | ⟨o, its, n, h1, h2, _⟩
  · exact .base (.tup h)
  · exact .fTuple h
  · exact .kTuple h1 h2
/-- the two questions of «an integer that is no bool» -/
theorem Kd.ask {K : PySem.W.Frag} {H : Hp} {v : V} {o : Option Int} (h : Kd K H v o) : ∃ t b1 b2, TyX K H v (.type t) ∧ kitB t "int" = some b1 ∧ kitB t "bool" = some b2 ∧ (b1 && !b2) = o.isSome := by
  cases h with
  | non => exact ⟨"NoneType", false, false, .base .non, by decide +kernel, by decide +kernel, rfl⟩
  | bl b => exact ⟨"bool", true, true, .base (.bl b), by decide +kernel, by decide +kernel, rfl⟩
  | int i => exact ⟨"int", true, false, .base (.int i), by decide +kernel, by decide +kernel, rfl⟩
  | str x => exact ⟨"str", false, false, .base (.str x), by decide +kernel, by decide +kernel, rfl⟩
  | lst h => exact ⟨"list", false, false, tyx_lst h, by decide +kernel, by decide +kernel, rfl⟩
  | tup h => exact ⟨"tuple", false, false, tyx_tup h, by decide +kernel, by decide +kernel, rfl⟩
  | dic h => exact ⟨"dict", false, false, .base (.dK h), by decide +kernel, by decide +kernel, rfl⟩
theorem Kd.int_of {K : PySem.W.Frag} {H : Hp} {v : V} {i : Int} (h : Kd K H v (some i)) : v = .int i := by cases h; rfl
/-- an integer's value in data -/
def intD : PyData → Option Int
  | .int i => some i
  | _ => none
theorem Dp.kd {K : PySem.W.Frag} {H : Hp} {v : V} {d : PyData} (h : Dp K H v d) : Kd K H v (intD d) := by
  cases h with
  | non => exact .non
  | bl b => exact .bl b
  | int i => exact .int i
  | str x => exact .str x
  | lst h _ => exact .lst h
  | tup h _ => exact .tup h
theorem Mix1.kd {K : PySem.W.Frag} {H : Hp} {v : V} {d : PyData} (h : Mix1 H v d) : Kd K H v (intD d) := by
  cases h with
  | flat f =>
    cases v with
    | non => exact .non
    | bl b => exact .bl b
    | int i => exact .int i
    | str x => exact .str x
    | _ => cases f
  | dic h _ => exact .dic h
/-- the items of a tuple, by their data -/
inductive KdAll (K : PySem.W.Frag) (H : Hp) : List V → List PyData → Prop
  | nil : KdAll K H [] []
  | cons {v : V} {vs : List V} {d : PyData} {ds : List PyData} : Kd K H v (intD d) → KdAll K H vs ds → KdAll K H (v :: vs) (d :: ds)
theorem kdAll_dp {K : PySem.W.Frag} {H : Hp} : ∀ {vs : List V} {ds : List PyData}, DpAll K H vs ds → KdAll K H vs ds
  | _, _, .nil => .nil
  | _, _, .cons h t => .cons (Dp.kd h) (kdAll_dp t)
theorem kdAll_mix {K : PySem.W.Frag} {H : Hp} : ∀ {vs : List V} {ds : List PyData}, MixAll H vs ds → KdAll K H vs ds
  | _, _, .nil => .nil
  | _, _, .cons h t => .cons (Mix1.kd h) (kdAll_mix t)
theorem kdAll_len {K : PySem.W.Frag} {H : Hp} : ∀ {xs : List V} {ds : List PyData}, KdAll K H xs ds → xs.length = ds.length
  | _, _, .nil => rfl
  | _, _, .cons _ t => congrArg Nat.succ (kdAll_len t)
theorem kdAll_two {K : PySem.W.Frag} {H : Hp} {xs : List V} {ds : List PyData} (h : KdAll K H xs ds) (h2 : ds.length = 2) :
    ∃ x y d e, xs = [x, y] ∧ ds = [d, e] ∧ Kd K H x (intD d) ∧ Kd K H y (intD e) := by
  cases h with
  | nil => cases h2
  | cons h1 t =>
    cases t with
    | nil => cases h2
    | cons g1 t =>
      cases t with
      | nil => exact ⟨_, _, _, _, rfl, rfl, h1, g1⟩
      | cons _ _ => simp at h2
/-- isinstance(v, tuple) -/
theorem tuple_ask {K : PySem.W.Frag} {H : Hp} {v : V} {d : PyData} (h : ShD K H v d) :
    (∃ a xs ds, v = .ref a ∧ SqT K H a xs ∧ KdAll K H xs ds ∧ d = .tuple ds ∧ TyX K H v (.type "tuple")) ∨
    (∃ t, TyX K H v (.type t) ∧ kitB t "tuple" = some false ∧ ∀ ds, d ≠ .tuple ds) := by
  cases h with
  | data h =>
    cases h with
    | non => exact .inr ⟨"NoneType", .base .non, by decide +kernel, fun _ z => nomatch z⟩
    | bl b => exact .inr ⟨"bool", .base (.bl b), by decide +kernel, fun _ z => nomatch z⟩
    | int i => exact .inr ⟨"int", .base (.int i), by decide +kernel, fun _ z => nomatch z⟩
    | str x => exact .inr ⟨"str", .base (.str x), by decide +kernel, fun _ z => nomatch z⟩
    | lst h _ => exact .inr ⟨"list", tyx_lst h, by decide +kernel, fun _ z => nomatch z⟩
    | tup h g => exact .inl ⟨_, _, _, rfl, h, kdAll_dp g, rfl, tyx_tup h⟩
  | mix h =>
    cases h with
    | flat f =>
      cases v with
      | non => exact .inr ⟨"NoneType", .base .non, by decide +kernel, fun _ z => nomatch z⟩
      | bl b => exact .inr ⟨"bool", .base (.bl b), by decide +kernel, fun _ z => nomatch z⟩
      | int i => exact .inr ⟨"int", .base (.int i), by decide +kernel, fun _ z => nomatch z⟩
      | str x => exact .inr ⟨"str", .base (.str x), by decide +kernel, fun _ z => nomatch z⟩
      | _ => cases f
    | dic h _ => exact .inr ⟨"dict", .base (.dK h), by decide +kernel, fun _ z => nomatch z⟩
  | tup h g => exact .inl ⟨_, _, _, rfl, h, kdAll_mix g, rfl, tyx_tup h⟩
/-- data stays where all that was tracked stays -/
theorem sqT_same {K : PySem.W.Frag} {H H' : Hp} {a : Addr} {xs : List V} (e : Same H H') (h : SqT K H a xs) : SqT K H' a xs := by
  rcases h with (h | ⟨o, h⟩) | h
  · exact .inl (.inl (e _ _ h))
  · exact .inl (.inr ⟨o, e _ _ h⟩)
  · exact .inr h
theorem dp_same {K : PySem.W.Frag} {H H' : Hp} (e : Same H H') {v : V} {d : PyData} (h : Dp K H v d) : Dp K H' v d := by
  induction h using Dp.rec (motive_2 := fun vs ds _ => DpAll K H' vs ds) with
  | non => exact .non
  | bl b => exact .bl b
  | int i => exact .int i
  | str x => exact .str x
  | lst h _ ih => exact .lst (e.seq h) ih
  | tup h _ ih => exact .tup (sqT_same e h) ih
  | nil => exact .nil
  | cons _ _ h1 h2 => exact .cons h1 h2
theorem mix_same {H H' : Hp} (e : Same H H') {v : V} {d : PyData} (h : Mix1 H v d) : Mix1 H' v d := by
  cases h with
  | flat f => exact .flat f
  | dic h f => exact .dic (e _ _ h) f
theorem mixAll_same {H H' : Hp} (e : Same H H') : ∀ {vs : List V} {ds : List PyData}, MixAll H vs ds → MixAll H' vs ds
  | _, _, .nil => .nil
  | _, _, .cons h t => .cons (mix_same e h) (mixAll_same e t)
theorem shd_same {K : PySem.W.Frag} {H H' : Hp} (e : Same H H') {v : V} {d : PyData} (h : ShD K H v d) : ShD K H' v d := by
  cases h with
  | data h => exact .data (dp_same e h)
  | mix h => exact .mix (mix_same e h)
  | tup h g => exact .tup (sqT_same e h) (mixAll_same e g)
theorem same_new {H H' : Hp} {p : Addr} {o : HO} (s : Same H H') (h : H p = none) : Same H (upd H' p o) := fun b u e => by
  rw [upd_ne (fun z => by rw [z, h] at e; cases e)]
  exact s b u e
section
variable {X : Cx}
/-- xs != [], xs == [] -/
def rNeNil (K : PySem.W.Frag) : R2 := fun x y H Q => ∃ a b xs, x = .ref a ∧ y = .ref b ∧ SqL K H a xs ∧ SqL K H b [] ∧ Q (.bl (!xs.isEmpty)) H
def rEqNil (K : PySem.W.Frag) : R2 := fun x y H Q => ∃ a b xs, x = .ref a ∧ y = .ref b ∧ SqL K H a xs ∧ SqL K H b [] ∧ Q (.bl xs.isEmpty) H
theorem op_neNil (hu : X.A.units + 1 < cLine) : OpR X (compareOp .NotEq) (rNeNil X.K) := by
  intro pins s σ H x y v u Q I rx ry h
  obtain ⟨a, b, xs, rfl, rfl, ha, hb, q⟩ := h
  cases rx
  cases ry
  obtain ⟨its, rv, ⟨o, n, ho, hc, _, hd⟩, _⟩ := I.list ha
  obtain ⟨its2, rv2, ⟨o2, n2, ho2, hc2, _, hd2⟩, _⟩ := I.list hb
  cases rv2
  have l1 : s.heap.IsList a its.toArray := ⟨_, ho, hc, n, hd⟩
  have l2 : s.heap.IsList b #[] := ⟨_, ho2, hc2, n2, hd2⟩
  cases rv with
  | nil => exact SeqAt.RcNeAt.lists l1 l2 rfl (by omega) (e := fun _ => true) (fun j h => absurd h (by simp)) _ _ _ _ ⟨.bl _, H, I, rfl, q⟩
  | cons r t => exact SeqAt.RcNeAt.lists_lengths l1 l2 (by simp) (by omega) _ _ _ _ ⟨.bl _, H, I, rfl, q⟩
theorem op_eqNil (hu : X.A.units + 1 < cLine) : OpR X (compareOp .Eq) (rEqNil X.K) := by
  intro pins s σ H x y v u Q I rx ry h
  obtain ⟨a, b, xs, rfl, rfl, ha, hb, q⟩ := h
  cases rx
  cases ry
  obtain ⟨its, rv, ⟨o, n, ho, hc, _, hd⟩, _⟩ := I.list ha
  obtain ⟨its2, rv2, ⟨o2, n2, ho2, hc2, _, hd2⟩, _⟩ := I.list hb
  cases rv2
  have l1 : s.heap.IsList a its.toArray := ⟨_, ho, hc, n, hd⟩
  have l2 : s.heap.IsList b #[] := ⟨_, ho2, hc2, n2, hd2⟩
  cases rv with
  | nil => exact SeqAt.eq_listAt l1 l2 rfl (by omega) (e := fun _ => true) (fun j h => absurd h (by simp)) ⟨.bl _, H, I, rfl, q⟩
  | cons r t => exact SeqAt.eq_list_lengthsAt l1 l2 (by simp) (by omega) ⟨.bl _, H, I, rfl, q⟩
end
section
variable {c A B : Prop} [Decidable c]
theorem ifD (hc : c) (h : A) : if decide c = true then A else B := by
  rw [decide_eq_true hc]
  exact iteT h
theorem ifDn (hc : ¬ c) (h : B) : if decide c = true then A else B := by
  rw [decide_eq_false hc]
  exact iteF h
theorem ifN (hc : ¬ c) (h : A) : if (!decide c) = true then A else B := by
  rw [decide_eq_false hc]
  exact iteT h
theorem ifNn (hc : c) (h : B) : if (!decide c) = true then A else B := by
  rw [decide_eq_true hc]
  exact iteF h
end
theorem vI {i j : Int} (h : i = j) : V.int i = V.int j := congrArg _ h
theorem vIn {i j : Int} (h : ¬ i = j) : ¬ V.int i = V.int j := fun z => h (V.int.inj z)
end GL

/-! data that repr shows within the line -/
namespace GL
open PySem L2 PySem.Spec PyProof.Rows

/-- shown within the line: its depth and its bulk -/
structure Sw (d : PyData) (k b : Nat) : Prop where
  sh : d.showable = true
  lf : d.leavesShort 1921 = true
  dp : d.depth ≤ k
  bk : d.bulk ≤ b
structure SwAll (ds : List PyData) (k b : Nat) : Prop where
  sh : PyData.showableAll ds = true
  lf : PyData.leavesShortAll 1921 ds = true
  dp : PyData.depthAll ds ≤ k
  bk : PyData.bulkAll ds ≤ b
theorem Sw.none : Sw .none 0 0 := ⟨rfl, rfl, Nat.le_refl _, Nat.le_refl _⟩
theorem Sw.bool (b : Bool) : Sw (.bool b) 0 0 := ⟨rfl, rfl, Nat.le_refl _, Nat.le_refl _⟩
theorem Sw.int {i : Int} (h : i.natAbs < 2 ^ 1900) : Sw (.int i) 0 0 := by
  have l : i.natAbs.log2 < 1920 := Nat.lt_of_lt_of_le (PySem.Flt.log2_lt_of (by decide) h) (by decide)
  refine ⟨?_, ?_, Nat.le_refl _, Nat.le_refl _⟩
  · simpa only [PyData.showable, decide_eq_true_eq] using l
  · exact decide_eq_true (int_text_len_1921 l)
theorem Sw.str {x : Str} (h : (x.cps.toList.all fun c => decide (c < 16 ^ 8)) = true) : Sw (.str x) 0 x.cps.size := ⟨rfl, h, Nat.le_refl _, Nat.le_refl _⟩
theorem SwAll.nil : SwAll [] 0 0 := ⟨rfl, rfl, Nat.le_refl _, Nat.le_refl _⟩
theorem SwAll.cons {d : PyData} {ds : List PyData} {k b k' b' : Nat} (h : Sw d k b) (t : SwAll ds k' b') : SwAll (d :: ds) (max k k') (b + 1 + b') := by
  refine ⟨?_, ?_, ?_, ?_⟩
  · simp only [PyData.showableAll, h.sh, t.sh, Bool.and_self]
  · simp only [PyData.leavesShortAll, h.lf, t.lf, Bool.and_self]
  · have h1 := h.dp
    have h2 := t.dp
    simp only [PyData.depthAll]
    omega
  · have h1 := h.bk
    have h2 := t.bk
    simp only [PyData.bulkAll]
    omega
theorem Sw.tuple {ds : List PyData} {k b : Nat} (t : SwAll ds k b) : Sw (.tuple ds) (k + 1) b := by
  refine ⟨?_, ?_, ?_, ?_⟩
  · simpa only [PyData.showable] using t.sh
  · simpa only [PyData.leavesShort] using t.lf
  · have h := t.dp
    simp only [PyData.depth]
    omega
  · simpa only [PyData.bulk] using t.bk
theorem Sw.list {ds : List PyData} {k b : Nat} (t : SwAll ds k b) : Sw (.list ds) (k + 1) b := by
  refine ⟨?_, ?_, ?_, ?_⟩
  · simpa only [PyData.showable] using t.sh
  · simpa only [PyData.leavesShort] using t.lf
  · have h := t.dp
    simp only [PyData.depth]
    omega
  · simpa only [PyData.bulk] using t.bk
theorem Sw.nodict : Sw (.dict []) 1 0 := ⟨rfl, rfl, by simp [PyData.depth, PyData.depthKv], by simp [PyData.bulk, PyData.bulkKv]⟩
theorem Sw.up {d : PyData} {k b k' b' : Nat} (h : Sw d k b) (hk : k ≤ k') (hb : b ≤ b') : Sw d k' b' := ⟨h.sh, h.lf, Nat.le_trans h.dp hk, Nat.le_trans h.bk hb⟩
theorem Sw.len {d : PyData} {k b : Nat} (h : Sw d k b) (hb : b ≤ 5000) : d.shown.length ≤ sizeLine := by
  have e := PyData.shown_le_bulk 1921 (by decide) d h.lf
  have e2 := h.bk
  have e3 : (1921 + 2) * d.bulk ≤ (1921 + 2) * 5000 := Nat.mul_le_mul_left _ (Nat.le_trans e2 hb)
  rw [sizeLine_eq]
  omega
/-- a value that repr shows -/
def Good (K : PySem.W.Frag) (H : Hp) (v : V) : Prop := ∃ d k b, ShD K H v d ∧ Sw d k b ∧ k ≤ 60 ∧ b ≤ 5000
theorem good_same {K : PySem.W.Frag} {H H' : Hp} (e : Same H H') {v : V} (g : Good K H v) : Good K H' v := by
  obtain ⟨d, k, b, h, s, hk, hb⟩ := g
  exact ⟨d, k, b, shd_same e h, s, hk, hb⟩
end GL

/-! powers, and what is left of a number without its factors -/
namespace NM
open PySem

theorem natAbs_pow (b : Int) : ∀ n : Nat, (b ^ n).natAbs = b.natAbs ^ n
  | 0 => by simp
  | n + 1 => by rw [Int.pow_succ, Int.natAbs_mul, natAbs_pow b n, Nat.pow_succ]
/-- a power of a base up to 36 is small in bits -/
theorem pow_small {b : Int} (h0 : 0 ≤ b) (h : b ≤ 36) (n : Nat) : (b ^ n).natAbs < 2 ^ (6 * n + 1) := by
  rw [natAbs_pow]
  have h1 : b.natAbs ≤ 2 ^ 6 := by omega
  have h2 : b.natAbs ^ n ≤ (2 ^ 6) ^ n := Nat.pow_le_pow_left h1 n
  rw [← Nat.pow_mul] at h2
  calc b.natAbs ^ n ≤ 2 ^ (6 * n) := h2
    _ < 2 ^ (6 * n + 1) := Nat.pow_lt_pow_right (by decide) (by omega)
/-- the bits of a natural number -/
theorem lt_bits (n : Nat) : n < 2 ^ Builtin.Int.intBits (n : Int) := by
  unfold Builtin.Int.intBits
  by_cases h : n = 0
  · subst h
    decide
  · have : ((n : Int) == 0) = false := by simp; omega
    rw [this, if_neg Bool.false_ne_true]
    show n < 2 ^ ((n : Int).natAbs.log2 + 1)
    rw [Int.natAbs_natCast]
    exact Nat.lt_log2_self
theorem bits_le {n m : Nat} (h : n < 2 ^ m) : Builtin.Int.intBits (n : Int) ≤ m := by
  unfold Builtin.Int.intBits
  split
  · omega
  · rename_i h0
    have hn : n ≠ 0 := by
      intro z
      subst z
      exact h0 rfl
    show ((n : Int).natAbs.log2 + 1) ≤ m
    rw [Int.natAbs_natCast]
    exact Nat.succ_le_of_lt ((Nat.log2_lt hn).mpr h)
/-- squaring step: from c >> (k + 1) to c >> k -/
theorem shift_step (c k : Nat) : c / 2 ^ k = 2 * (c / 2 ^ (k + 1)) + c / 2 ^ k % 2 := by
  have : c / 2 ^ (k + 1) = c / 2 ^ k / 2 := by rw [Nat.pow_succ, Nat.div_div_eq_div_mul]
  omega
theorem pow_two_mul (b : Int) (n : Nat) : b ^ n * b ^ n = b ^ (2 * n) := by
  rw [← Int.pow_add]
  congr 1
  omega

theorem sq_succ (b : Int) (m : Nat) : b ^ 2 ^ m * b ^ 2 ^ m = b ^ 2 ^ (m + 1) := by
  rw [← Int.pow_add, Nat.pow_succ]
  congr 1
  omega
theorem pow_pos {b : Int} (h : 2 ≤ b) (e : Nat) : 0 < b ^ e := Int.pow_pos (by omega)
theorem two_pow_le {b : Int} (h : 2 ≤ b) (e : Nat) : 2 ^ e ≤ (b ^ e).natAbs := by
  rw [natAbs_pow]
  exact Nat.pow_le_pow_left (by omega) e
/-- a divisor's exponent is small -/
theorem exp_lt {b n : Int} {e k : Nat} (hb : 2 ≤ b) (h0 : n ≠ 0) (hd : n % b ^ e = 0) (hn : n.natAbs < 2 ^ k) : e < k := by
  have h1 : (b ^ e) ∣ n := Int.dvd_of_emod_eq_zero hd
  have h2 : (b ^ e).natAbs ≤ n.natAbs := Nat.le_of_dvd (by omega) (Int.natAbs_dvd_natAbs.mpr h1)
  have h3 : 2 ^ e < 2 ^ k := Nat.lt_of_le_of_lt (Nat.le_trans (two_pow_le hb e) h2) hn
  exact (Nat.pow_lt_pow_iff_right (by decide)).mp h3
theorem lt_two_pow_12 {m : Nat} (h : 2 ^ m < 7000) : m ≤ 12 := by
  by_cases q : m ≤ 12
  · exact q
  · have : 2 ^ 13 ≤ 2 ^ m := Nat.pow_le_pow_right (by decide) (by omega)
    omega
/-- n is s times b ^ (f * 2 ^ J), and s no more divisible by b ^ 2 ^ J -/
structure Left (b n s : Int) (f J : Nat) : Prop where
  eq : n = s * b ^ (f * 2 ^ J)
  no : s % b ^ 2 ^ J ≠ 0
theorem Left.ne {b n s : Int} {f J : Nat} (L : Left b n s f J) : s ≠ 0 := fun z => L.no (by rw [z]; exact Int.zero_emod _)
theorem Left.le {b n s : Int} {f J : Nat} (hb : 2 ≤ b) (L : Left b n s f J) : s.natAbs ≤ n.natAbs := by
  rw [L.eq, Int.natAbs_mul]
  exact Nat.le_mul_of_pos_right _ (by have := pow_pos hb (f * 2 ^ J); omega)
theorem Left.keep {b n s : Int} {f J : Nat} (L : Left b n s f (J + 1)) (h : s % b ^ 2 ^ J ≠ 0) : Left b n s (f * 2) J := by
  refine ⟨?_, h⟩
  have e : f * 2 * 2 ^ J = f * 2 ^ (J + 1) := by rw [Nat.pow_succ, Nat.mul_assoc, Nat.mul_comm 2]
  rw [e]
  exact L.eq
theorem Left.take {b n s : Int} {f J : Nat} (hb : 2 ≤ b) (L : Left b n s f (J + 1)) (h : s % b ^ 2 ^ J = 0) : Left b n (s / b ^ 2 ^ J) (f * 2 + 1) J := by
  have hp := pow_pos hb (2 ^ J)
  have hs : s = s / b ^ 2 ^ J * b ^ 2 ^ J := (Int.ediv_mul_cancel (Int.dvd_of_emod_eq_zero h)).symm
  constructor
  · have e : (f * 2 + 1) * 2 ^ J = 2 ^ J + f * 2 ^ (J + 1) := by
      rw [Nat.add_mul, Nat.one_mul, Nat.pow_succ, Nat.mul_assoc, Nat.mul_comm 2, Nat.add_comm]
    rw [e, Int.pow_add, ← Int.mul_assoc, ← hs]
    exact L.eq
  · intro z
    apply L.no
    have z2 : s / b ^ 2 ^ J = s / b ^ 2 ^ J / b ^ 2 ^ J * b ^ 2 ^ J := (Int.ediv_mul_cancel (Int.dvd_of_emod_eq_zero z)).symm
    rw [← sq_succ]
    apply Int.emod_eq_zero_of_dvd
    refine ⟨s / b ^ 2 ^ J / b ^ 2 ^ J, ?_⟩
    calc s = s / b ^ 2 ^ J * b ^ 2 ^ J := hs
      _ = s / b ^ 2 ^ J / b ^ 2 ^ J * b ^ 2 ^ J * b ^ 2 ^ J := by rw [← z2]
      _ = _ := by rw [Int.mul_comm, Int.mul_comm (s / b ^ 2 ^ J / b ^ 2 ^ J), Int.mul_assoc]
/-- the form of a number is one: what is left, and how many factors -/
theorem one_form {b n s t : Int} {f g : Nat} (hb : 2 ≤ b) (h1 : n = s * b ^ f) (h2 : s % b ≠ 0) (h3 : n = t * b ^ g) (h4 : t % b ≠ 0) : s = t ∧ f = g := by
  have key : ∀ (s t : Int) (f d : Nat), s * b ^ f = t * b ^ (f + d) → s % b ≠ 0 → d = 0 ∧ s = t := by
    intro s t f d e hs
    rw [Int.pow_add, Int.mul_comm (b ^ f), ← Int.mul_assoc] at e
    have e2 : s = t * b ^ d := Int.eq_of_mul_eq_mul_right (by have := pow_pos hb f; omega) e
    cases d with
    | zero => exact ⟨rfl, by simpa using e2⟩
    | succ d =>
      exfalso
      apply hs
      rw [e2, Int.pow_succ, ← Int.mul_assoc]
      exact Int.mul_emod_left _ _
  rcases Nat.le_total f g with h | h
  · obtain ⟨d, rfl⟩ := Nat.exists_eq_add_of_le h
    obtain ⟨h5, h6⟩ := key s t f d (h1.symm.trans h3) h2
    subst h5
    exact ⟨h6, rfl⟩
  · obtain ⟨d, rfl⟩ := Nat.exists_eq_add_of_le h
    obtain ⟨h5, h6⟩ := key t s g d (h3.symm.trans h1) h4
    subst h5
    exact ⟨h6.symm, rfl⟩
end NM

namespace K02
open PySem L2 GL
def top (i : Nat) : Stmt := PySem.Challenge.pw_abacushead_k02_valid_numbers.main.body.getD i (.Pass ⟨0, 0, 0, 0⟩)
abbrev s_is_whole : Stmt := top 5
theorem sc_is_whole : FnScope ["value"] ["value"] (defScope s_is_whole) := ⟨rfl, rfl, rfl, by decide +kernel, rfl, by decide +kernel, by decide +kernel⟩
abbrev s_is_within : Stmt := top 6
theorem sc_is_within : FnScope ["value", "low", "high"] ["value", "low", "high"] (defScope s_is_within) := ⟨rfl, rfl, rfl, by decide +kernel, rfl, by decide +kernel, by decide +kernel⟩
abbrev s_is_place : Stmt := top 7
theorem sc_is_place : FnScope ["value"] ["value"] (defScope s_is_place) := ⟨rfl, rfl, rfl, by decide +kernel, rfl, by decide +kernel, by decide +kernel⟩
abbrev s_power_of : Stmt := top 8
theorem sc_power_of : FnScope ["base", "count", "power", "bit"] ["base", "count"] (defScope s_power_of) := ⟨rfl, rfl, rfl, by decide +kernel, rfl, by decide +kernel, by decide +kernel⟩
abbrev s_is_number : Stmt := top 11
theorem sc_is_number : FnScope ["base", "value", "numerator", "exponent"] ["base", "value"] (defScope s_is_number) := ⟨rfl, rfl, rfl, by decide +kernel, rfl, by decide +kernel, by decide +kernel⟩
abbrev s_make_number : Stmt := top 12
theorem sc_make_number : FnScope ["base", "numerator", "exponent", "shortened", "factors"] ["base", "numerator", "exponent"] (defScope s_make_number) := ⟨rfl, rfl, rfl, by decide +kernel, rfl, by decide +kernel, by decide +kernel⟩
abbrev s_has_few_digits : Stmt := top 13
theorem sc_has_few_digits : FnScope ["numerator"] ["numerator"] (defScope s_has_few_digits) := ⟨rfl, rfl, rfl, by decide +kernel, rfl, by decide +kernel, by decide +kernel⟩
abbrev s_without_factors : Stmt := top 14
theorem sc_without_factors : FnScope ["base", "numerator", "powers", "factors", "power"] ["base", "numerator"] (defScope s_without_factors) := ⟨rfl, rfl, rfl, by decide +kernel, rfl, by decide +kernel, by decide +kernel⟩
abbrev s_law_numbers : Stmt := top 16
theorem sc_law_numbers : FnScope ["_law_cell", "_law_salt", "_law_sizes", "_law_number_here", "_law_left", "_law_result", "_law_k", "_law_one"] ["_law_cell", "_law_salt", "_law_sizes"] (defScope s_law_numbers) := ⟨rfl, rfl, rfl, by decide +kernel, rfl, by decide +kernel, by decide +kernel⟩
abbrev s_law_power : Stmt := top 17
theorem sc_law_power : FnScope ["_law_base_here", "_law_count", "_law_result", "_law_turn"] ["_law_base_here", "_law_count"] (defScope s_law_power) := ⟨rfl, rfl, rfl, by decide +kernel, rfl, by decide +kernel, by decide +kernel⟩
abbrev s_law_form : Stmt := top 18
theorem sc_law_form : FnScope ["_law_base_here", "_law_numerator", "_law_exponent"] ["_law_base_here", "_law_numerator", "_law_exponent"] (defScope s_law_form) := ⟨rfl, rfl, rfl, by decide +kernel, rfl, by decide +kernel, by decide +kernel⟩
abbrev s_law_sum : Stmt := top 19
theorem sc_law_sum : FnScope ["_law_base_here", "_law_one", "_law_other", "_law_low", "_law_whole"] ["_law_base_here", "_law_one", "_law_other"] (defScope s_law_sum) := ⟨rfl, rfl, rfl, by decide +kernel, rfl, by decide +kernel, by decide +kernel⟩
abbrev s_law_base : Stmt := top 20
theorem sc_law_base : FnScope ["_law_digit"] ["_law_digit"] (defScope s_law_base) := ⟨rfl, rfl, rfl, by decide +kernel, rfl, by decide +kernel, by decide +kernel⟩
abbrev s_law_integer : Stmt := top 21
theorem sc_law_integer : FnScope ["_law_digits", "_law_size", "_law_mixed", "_law_result"] ["_law_digits"] (defScope s_law_integer) := ⟨rfl, rfl, rfl, by decide +kernel, rfl, by decide +kernel, by decide +kernel⟩
abbrev s_law_number : Stmt := top 22
theorem sc_law_number : FnScope ["_law_base_here", "_law_digits"] ["_law_base_here", "_law_digits"] (defScope s_law_number) := ⟨rfl, rfl, rfl, by decide +kernel, rfl, by decide +kernel, by decide +kernel⟩
abbrev s_law_is_integer : Stmt := top 23
theorem sc_law_is_integer : FnScope ["_law_value"] ["_law_value"] (defScope s_law_is_integer) := ⟨rfl, rfl, rfl, by decide +kernel, rfl, by decide +kernel, by decide +kernel⟩
abbrev s_law_long : Stmt := top 24
theorem sc_law_long : FnScope [] [] (defScope s_law_long) := ⟨rfl, rfl, rfl, by decide +kernel, rfl, by decide +kernel, by decide +kernel⟩
abbrev s_law_is_number : Stmt := top 25
theorem sc_law_is_number : FnScope ["_law_base_here", "_law_value", "_law_one"] ["_law_base_here", "_law_value"] (defScope s_law_is_number) := ⟨rfl, rfl, rfl, by decide +kernel, rfl, by decide +kernel, by decide +kernel⟩
abbrev s_law_altered : Stmt := top 26
theorem sc_law_altered : FnScope ["_law_base_here", "_law_number_here", "_law_digits", "_law_numerator", "_law_exponent", "_law_odd", "_law_some", "_law_top"] ["_law_base_here", "_law_number_here", "_law_digits"] (defScope s_law_altered) := ⟨rfl, rfl, rfl, by decide +kernel, rfl, by decide +kernel, by decide +kernel⟩
abbrev s_law_want : Stmt := top 27
theorem sc_law_want : FnScope ["_law_base_here", "_law_numerator", "_law_exponent", "_law_number_here"] ["_law_base_here", "_law_numerator", "_law_exponent"] (defScope s_law_want) := ⟨rfl, rfl, rfl, by decide +kernel, rfl, by decide +kernel, by decide +kernel⟩
abbrev s_law_got : Stmt := top 28
theorem sc_law_got : FnScope ["_law_base_here", "_law_numerator", "_law_exponent", "_law_result", "e"] ["_law_base_here", "_law_numerator", "_law_exponent"] (defScope s_law_got) := ⟨rfl, rfl, rfl, by decide +kernel, rfl, by decide +kernel, by decide +kernel⟩
abbrev s_law : Stmt := top 29
theorem sc_law : FnScope ["_law_script", "_law_k", "_law_cell", "_law_digits", "_law_base_here", "_law_number_here", "_law_value", "_law_saved", "_law_lead", "_law_top", "_law_numerator", "_law_exponent"] ["_law_script"] (defScope s_law) := ⟨rfl, rfl, rfl, by decide +kernel, rfl, by decide +kernel, by decide +kernel⟩
structure Tx (K : PySem.W.Frag) (mg : Str → Option Value) where
  f_is_whole : Addr
  fd_is_whole : FuncData
  is_whole : Df K mg "is_whole" s_is_whole ["value"] f_is_whole fd_is_whole
  f_is_within : Addr
  fd_is_within : FuncData
  is_within : Df K mg "is_within" s_is_within ["value", "low", "high"] f_is_within fd_is_within
  f_is_place : Addr
  fd_is_place : FuncData
  is_place : Df K mg "is_place" s_is_place ["value"] f_is_place fd_is_place
  f_power_of : Addr
  fd_power_of : FuncData
  power_of : Df K mg "power_of" s_power_of ["base", "count"] f_power_of fd_power_of
  f_is_number : Addr
  fd_is_number : FuncData
  is_number : Df K mg "is_number" s_is_number ["base", "value"] f_is_number fd_is_number
  f_make_number : Addr
  fd_make_number : FuncData
  make_number : Df K mg "make_number" s_make_number ["base", "numerator", "exponent"] f_make_number fd_make_number
  f_has_few_digits : Addr
  fd_has_few_digits : FuncData
  has_few_digits : Df K mg "has_few_digits" s_has_few_digits ["numerator"] f_has_few_digits fd_has_few_digits
  f_without_factors : Addr
  fd_without_factors : FuncData
  without_factors : Df K mg "without_factors" s_without_factors ["base", "numerator"] f_without_factors fd_without_factors
  f_law_numbers : Addr
  fd_law_numbers : FuncData
  law_numbers : Df K mg "_law_numbers" s_law_numbers ["_law_cell", "_law_salt", "_law_sizes"] f_law_numbers fd_law_numbers
  f_law_power : Addr
  fd_law_power : FuncData
  law_power : Df K mg "_law_power" s_law_power ["_law_base_here", "_law_count"] f_law_power fd_law_power
  f_law_form : Addr
  fd_law_form : FuncData
  law_form : Df K mg "_law_form" s_law_form ["_law_base_here", "_law_numerator", "_law_exponent"] f_law_form fd_law_form
  f_law_base : Addr
  fd_law_base : FuncData
  law_base : Df K mg "_law_base" s_law_base ["_law_digit"] f_law_base fd_law_base
  f_law_integer : Addr
  fd_law_integer : FuncData
  law_integer : Df K mg "_law_integer" s_law_integer ["_law_digits"] f_law_integer fd_law_integer
  f_law_number : Addr
  fd_law_number : FuncData
  law_number : Df K mg "_law_number" s_law_number ["_law_base_here", "_law_digits"] f_law_number fd_law_number
  f_law_is_integer : Addr
  fd_law_is_integer : FuncData
  law_is_integer : Df K mg "_law_is_integer" s_law_is_integer ["_law_value"] f_law_is_integer fd_law_is_integer
  f_law_long : Addr
  fd_law_long : FuncData
  law_long : Df K mg "_law_long" s_law_long [] f_law_long fd_law_long
  f_law_is_number : Addr
  fd_law_is_number : FuncData
  law_is_number : Df K mg "_law_is_number" s_law_is_number ["_law_base_here", "_law_value"] f_law_is_number fd_law_is_number
  f_law_altered : Addr
  fd_law_altered : FuncData
  law_altered : Df K mg "_law_altered" s_law_altered ["_law_base_here", "_law_number_here", "_law_digits"] f_law_altered fd_law_altered
  f_law_want : Addr
  fd_law_want : FuncData
  law_want : Df K mg "_law_want" s_law_want ["_law_base_here", "_law_numerator", "_law_exponent"] f_law_want fd_law_want
  f_law_got : Addr
  fd_law_got : FuncData
  law_got : Df K mg "_law_got" s_law_got ["_law_base_here", "_law_numerator", "_law_exponent"] f_law_got fd_law_got
  f_law : Addr
  fd_law : FuncData
  law : Df K mg "law" s_law ["_law_script"] f_law fd_law
  C_LimitExceeded : Addr
  fI_LimitExceeded : Addr
  LimitExceeded : ErrTxt K mg C_LimitExceeded fI_LimitExceeded "LimitExceeded" "limit" "OverflowError" "OverflowError.__new__" [.type "OverflowError", .type "ArithmeticError", .type "Exception", .type "BaseException", .type "object"]
  C_HeadError : Addr
  h_HeadError : mg "HeadError" = some (.ref C_HeadError)
  t_MAX_PLACE : Tok
  c_MAX_PLACE : mg "MAX_PLACE" = some (.int 1000 t_MAX_PLACE)
  t_MAX_DIGITS : Tok
  c_MAX_DIGITS : mg "MAX_DIGITS" = some (.int 300 t_MAX_DIGITS)
  b_OverflowError : mg "OverflowError" = none
  b_abs : mg "abs" = none
  b_bool : mg "bool" = none
  b_enumerate : mg "enumerate" = none
  b_int : mg "int" = none
  b_isinstance : mg "isinstance" = none
  b_len : mg "len" = none
  b_list : mg "list" = none
  b_max : mg "max" = none
  b_range : mg "range" = none
  b_repr : mg "repr" = none
  b_reversed : mg "reversed" = none
  b_tuple : mg "tuple" = none
  x_isOverflow : PySem.W.kitOne K (.ref C_LimitExceeded) (.type "OverflowError") = some true
  x_isHead : PySem.W.kitOne K (.ref C_LimitExceeded) (.ref C_HeadError) = some false
def mkTx {K : PySem.W.Frag} {h : Heap} {mg : Str → Option Value} (X : K.In h) (G : h.Ns mainGlobals mg)
  {f_is_whole : Addr} {od_is_whole an_is_whole : Option Addr} {sl_is_whole : Array (Option Value)} {oc_is_whole kV_is_whole dc_is_whole pm_is_whole cd_is_whole ct_is_whole : Value}
  {f_is_within : Addr} {od_is_within an_is_within : Option Addr} {sl_is_within : Array (Option Value)} {oc_is_within kV_is_within dc_is_within pm_is_within cd_is_within ct_is_within : Value}
  {f_is_place : Addr} {od_is_place an_is_place : Option Addr} {sl_is_place : Array (Option Value)} {oc_is_place kV_is_place dc_is_place pm_is_place cd_is_place ct_is_place : Value}
  {f_power_of : Addr} {od_power_of an_power_of : Option Addr} {sl_power_of : Array (Option Value)} {oc_power_of kV_power_of dc_power_of pm_power_of cd_power_of ct_power_of : Value}
  {f_is_number : Addr} {od_is_number an_is_number : Option Addr} {sl_is_number : Array (Option Value)} {oc_is_number kV_is_number dc_is_number pm_is_number cd_is_number ct_is_number : Value}
  {f_make_number : Addr} {od_make_number an_make_number : Option Addr} {sl_make_number : Array (Option Value)} {oc_make_number kV_make_number dc_make_number pm_make_number cd_make_number ct_make_number : Value}
  {f_has_few_digits : Addr} {od_has_few_digits an_has_few_digits : Option Addr} {sl_has_few_digits : Array (Option Value)} {oc_has_few_digits kV_has_few_digits dc_has_few_digits pm_has_few_digits cd_has_few_digits ct_has_few_digits : Value}
  {f_without_factors : Addr} {od_without_factors an_without_factors : Option Addr} {sl_without_factors : Array (Option Value)} {oc_without_factors kV_without_factors dc_without_factors pm_without_factors cd_without_factors ct_without_factors : Value}
  {f_law_numbers : Addr} {od_law_numbers an_law_numbers : Option Addr} {sl_law_numbers : Array (Option Value)} {oc_law_numbers kV_law_numbers dc_law_numbers pm_law_numbers cd_law_numbers ct_law_numbers : Value}
  {f_law_power : Addr} {od_law_power an_law_power : Option Addr} {sl_law_power : Array (Option Value)} {oc_law_power kV_law_power dc_law_power pm_law_power cd_law_power ct_law_power : Value}
  {f_law_form : Addr} {od_law_form an_law_form : Option Addr} {sl_law_form : Array (Option Value)} {oc_law_form kV_law_form dc_law_form pm_law_form cd_law_form ct_law_form : Value}
  {f_law_base : Addr} {od_law_base an_law_base : Option Addr} {sl_law_base : Array (Option Value)} {oc_law_base kV_law_base dc_law_base pm_law_base cd_law_base ct_law_base : Value}
  {f_law_integer : Addr} {od_law_integer an_law_integer : Option Addr} {sl_law_integer : Array (Option Value)} {oc_law_integer kV_law_integer dc_law_integer pm_law_integer cd_law_integer ct_law_integer : Value}
  {f_law_number : Addr} {od_law_number an_law_number : Option Addr} {sl_law_number : Array (Option Value)} {oc_law_number kV_law_number dc_law_number pm_law_number cd_law_number ct_law_number : Value}
  {f_law_is_integer : Addr} {od_law_is_integer an_law_is_integer : Option Addr} {sl_law_is_integer : Array (Option Value)} {oc_law_is_integer kV_law_is_integer dc_law_is_integer pm_law_is_integer cd_law_is_integer ct_law_is_integer : Value}
  {f_law_long : Addr} {od_law_long an_law_long : Option Addr} {sl_law_long : Array (Option Value)} {oc_law_long kV_law_long dc_law_long pm_law_long cd_law_long ct_law_long : Value}
  {f_law_is_number : Addr} {od_law_is_number an_law_is_number : Option Addr} {sl_law_is_number : Array (Option Value)} {oc_law_is_number kV_law_is_number dc_law_is_number pm_law_is_number cd_law_is_number ct_law_is_number : Value}
  {f_law_altered : Addr} {od_law_altered an_law_altered : Option Addr} {sl_law_altered : Array (Option Value)} {oc_law_altered kV_law_altered dc_law_altered pm_law_altered cd_law_altered ct_law_altered : Value}
  {f_law_want : Addr} {od_law_want an_law_want : Option Addr} {sl_law_want : Array (Option Value)} {oc_law_want kV_law_want dc_law_want pm_law_want cd_law_want ct_law_want : Value}
  {f_law_got : Addr} {od_law_got an_law_got : Option Addr} {sl_law_got : Array (Option Value)} {oc_law_got kV_law_got dc_law_got pm_law_got cd_law_got ct_law_got : Value}
  {f_law : Addr} {od_law an_law : Option Addr} {sl_law : Array (Option Value)} {oc_law kV_law dc_law pm_law cd_law ct_law : Value}
  {C_LimitExceeded I_LimitExceeded N_LimitExceeded : Addr} {nm_LimitExceeded q_LimitExceeded : Str} {bs_LimitExceeded bm_LimitExceeded sub_LimitExceeded : List Value} {sn_LimitExceeded : List Str} {ab_LimitExceeded : Bool} {col_LimitExceeded : Option Bool} {dd_LimitExceeded : Option Addr} {m0_LimitExceeded m1_LimitExceeded m2_LimitExceeded m3_LimitExceeded m5_LimitExceeded : Option Value}
  {od_LimitExceeded an_LimitExceeded : Option Addr} {sl_LimitExceeded : Array (Option Value)} {oc_LimitExceeded dc_LimitExceeded pm_LimitExceeded cd_LimitExceeded cv_LimitExceeded : Value}
  {C_HeadError : Addr}
  {t_MAX_PLACE : Tok}
  {t_MAX_DIGITS : Tok}
  (a_is_whole : PySem.W.nsIn K mainGlobals "is_whole" = some (some (.ref f_is_whole)))
  (l_is_whole : K.lookup f_is_whole = some ⟨oc_is_whole, od_is_whole, .func (PySem.W.fnOf "is_whole" "is_whole" (defArgs s_is_whole) (defBody s_is_whole) (defScope s_is_whole) .none kV_is_whole dc_is_whole pm_is_whole an_is_whole cd_is_whole ct_is_whole), sl_is_whole⟩)
  (c_is_whole : PySem.W.codeIn K cd_is_whole "is_whole" = true)
  (k_is_whole : PySem.W.keepIn K (.ref f_is_whole) = true)
  (a_is_within : PySem.W.nsIn K mainGlobals "is_within" = some (some (.ref f_is_within)))
  (l_is_within : K.lookup f_is_within = some ⟨oc_is_within, od_is_within, .func (PySem.W.fnOf "is_within" "is_within" (defArgs s_is_within) (defBody s_is_within) (defScope s_is_within) .none kV_is_within dc_is_within pm_is_within an_is_within cd_is_within ct_is_within), sl_is_within⟩)
  (c_is_within : PySem.W.codeIn K cd_is_within "is_within" = true)
  (k_is_within : PySem.W.keepIn K (.ref f_is_within) = true)
  (a_is_place : PySem.W.nsIn K mainGlobals "is_place" = some (some (.ref f_is_place)))
  (l_is_place : K.lookup f_is_place = some ⟨oc_is_place, od_is_place, .func (PySem.W.fnOf "is_place" "is_place" (defArgs s_is_place) (defBody s_is_place) (defScope s_is_place) .none kV_is_place dc_is_place pm_is_place an_is_place cd_is_place ct_is_place), sl_is_place⟩)
  (c_is_place : PySem.W.codeIn K cd_is_place "is_place" = true)
  (k_is_place : PySem.W.keepIn K (.ref f_is_place) = true)
  (a_power_of : PySem.W.nsIn K mainGlobals "power_of" = some (some (.ref f_power_of)))
  (l_power_of : K.lookup f_power_of = some ⟨oc_power_of, od_power_of, .func (PySem.W.fnOf "power_of" "power_of" (defArgs s_power_of) (defBody s_power_of) (defScope s_power_of) .none kV_power_of dc_power_of pm_power_of an_power_of cd_power_of ct_power_of), sl_power_of⟩)
  (c_power_of : PySem.W.codeIn K cd_power_of "power_of" = true)
  (k_power_of : PySem.W.keepIn K (.ref f_power_of) = true)
  (a_is_number : PySem.W.nsIn K mainGlobals "is_number" = some (some (.ref f_is_number)))
  (l_is_number : K.lookup f_is_number = some ⟨oc_is_number, od_is_number, .func (PySem.W.fnOf "is_number" "is_number" (defArgs s_is_number) (defBody s_is_number) (defScope s_is_number) .none kV_is_number dc_is_number pm_is_number an_is_number cd_is_number ct_is_number), sl_is_number⟩)
  (c_is_number : PySem.W.codeIn K cd_is_number "is_number" = true)
  (k_is_number : PySem.W.keepIn K (.ref f_is_number) = true)
  (a_make_number : PySem.W.nsIn K mainGlobals "make_number" = some (some (.ref f_make_number)))
  (l_make_number : K.lookup f_make_number = some ⟨oc_make_number, od_make_number, .func (PySem.W.fnOf "make_number" "make_number" (defArgs s_make_number) (defBody s_make_number) (defScope s_make_number) .none kV_make_number dc_make_number pm_make_number an_make_number cd_make_number ct_make_number), sl_make_number⟩)
  (c_make_number : PySem.W.codeIn K cd_make_number "make_number" = true)
  (k_make_number : PySem.W.keepIn K (.ref f_make_number) = true)
  (a_has_few_digits : PySem.W.nsIn K mainGlobals "has_few_digits" = some (some (.ref f_has_few_digits)))
  (l_has_few_digits : K.lookup f_has_few_digits = some ⟨oc_has_few_digits, od_has_few_digits, .func (PySem.W.fnOf "has_few_digits" "has_few_digits" (defArgs s_has_few_digits) (defBody s_has_few_digits) (defScope s_has_few_digits) .none kV_has_few_digits dc_has_few_digits pm_has_few_digits an_has_few_digits cd_has_few_digits ct_has_few_digits), sl_has_few_digits⟩)
  (c_has_few_digits : PySem.W.codeIn K cd_has_few_digits "has_few_digits" = true)
  (k_has_few_digits : PySem.W.keepIn K (.ref f_has_few_digits) = true)
  (a_without_factors : PySem.W.nsIn K mainGlobals "without_factors" = some (some (.ref f_without_factors)))
  (l_without_factors : K.lookup f_without_factors = some ⟨oc_without_factors, od_without_factors, .func (PySem.W.fnOf "without_factors" "without_factors" (defArgs s_without_factors) (defBody s_without_factors) (defScope s_without_factors) .none kV_without_factors dc_without_factors pm_without_factors an_without_factors cd_without_factors ct_without_factors), sl_without_factors⟩)
  (c_without_factors : PySem.W.codeIn K cd_without_factors "without_factors" = true)
  (k_without_factors : PySem.W.keepIn K (.ref f_without_factors) = true)
  (a_law_numbers : PySem.W.nsIn K mainGlobals "_law_numbers" = some (some (.ref f_law_numbers)))
  (l_law_numbers : K.lookup f_law_numbers = some ⟨oc_law_numbers, od_law_numbers, .func (PySem.W.fnOf "_law_numbers" "_law_numbers" (defArgs s_law_numbers) (defBody s_law_numbers) (defScope s_law_numbers) .none kV_law_numbers dc_law_numbers pm_law_numbers an_law_numbers cd_law_numbers ct_law_numbers), sl_law_numbers⟩)
  (c_law_numbers : PySem.W.codeIn K cd_law_numbers "_law_numbers" = true)
  (k_law_numbers : PySem.W.keepIn K (.ref f_law_numbers) = true)
  (a_law_power : PySem.W.nsIn K mainGlobals "_law_power" = some (some (.ref f_law_power)))
  (l_law_power : K.lookup f_law_power = some ⟨oc_law_power, od_law_power, .func (PySem.W.fnOf "_law_power" "_law_power" (defArgs s_law_power) (defBody s_law_power) (defScope s_law_power) .none kV_law_power dc_law_power pm_law_power an_law_power cd_law_power ct_law_power), sl_law_power⟩)
  (c_law_power : PySem.W.codeIn K cd_law_power "_law_power" = true)
  (k_law_power : PySem.W.keepIn K (.ref f_law_power) = true)
  (a_law_form : PySem.W.nsIn K mainGlobals "_law_form" = some (some (.ref f_law_form)))
  (l_law_form : K.lookup f_law_form = some ⟨oc_law_form, od_law_form, .func (PySem.W.fnOf "_law_form" "_law_form" (defArgs s_law_form) (defBody s_law_form) (defScope s_law_form) .none kV_law_form dc_law_form pm_law_form an_law_form cd_law_form ct_law_form), sl_law_form⟩)
  (c_law_form : PySem.W.codeIn K cd_law_form "_law_form" = true)
  (k_law_form : PySem.W.keepIn K (.ref f_law_form) = true)
  (a_law_base : PySem.W.nsIn K mainGlobals "_law_base" = some (some (.ref f_law_base)))
  (l_law_base : K.lookup f_law_base = some ⟨oc_law_base, od_law_base, .func (PySem.W.fnOf "_law_base" "_law_base" (defArgs s_law_base) (defBody s_law_base) (defScope s_law_base) .none kV_law_base dc_law_base pm_law_base an_law_base cd_law_base ct_law_base), sl_law_base⟩)
  (c_law_base : PySem.W.codeIn K cd_law_base "_law_base" = true)
  (k_law_base : PySem.W.keepIn K (.ref f_law_base) = true)
  (a_law_integer : PySem.W.nsIn K mainGlobals "_law_integer" = some (some (.ref f_law_integer)))
  (l_law_integer : K.lookup f_law_integer = some ⟨oc_law_integer, od_law_integer, .func (PySem.W.fnOf "_law_integer" "_law_integer" (defArgs s_law_integer) (defBody s_law_integer) (defScope s_law_integer) .none kV_law_integer dc_law_integer pm_law_integer an_law_integer cd_law_integer ct_law_integer), sl_law_integer⟩)
  (c_law_integer : PySem.W.codeIn K cd_law_integer "_law_integer" = true)
  (k_law_integer : PySem.W.keepIn K (.ref f_law_integer) = true)
  (a_law_number : PySem.W.nsIn K mainGlobals "_law_number" = some (some (.ref f_law_number)))
  (l_law_number : K.lookup f_law_number = some ⟨oc_law_number, od_law_number, .func (PySem.W.fnOf "_law_number" "_law_number" (defArgs s_law_number) (defBody s_law_number) (defScope s_law_number) .none kV_law_number dc_law_number pm_law_number an_law_number cd_law_number ct_law_number), sl_law_number⟩)
  (c_law_number : PySem.W.codeIn K cd_law_number "_law_number" = true)
  (k_law_number : PySem.W.keepIn K (.ref f_law_number) = true)
  (a_law_is_integer : PySem.W.nsIn K mainGlobals "_law_is_integer" = some (some (.ref f_law_is_integer)))
  (l_law_is_integer : K.lookup f_law_is_integer = some ⟨oc_law_is_integer, od_law_is_integer, .func (PySem.W.fnOf "_law_is_integer" "_law_is_integer" (defArgs s_law_is_integer) (defBody s_law_is_integer) (defScope s_law_is_integer) .none kV_law_is_integer dc_law_is_integer pm_law_is_integer an_law_is_integer cd_law_is_integer ct_law_is_integer), sl_law_is_integer⟩)
  (c_law_is_integer : PySem.W.codeIn K cd_law_is_integer "_law_is_integer" = true)
  (k_law_is_integer : PySem.W.keepIn K (.ref f_law_is_integer) = true)
  (a_law_long : PySem.W.nsIn K mainGlobals "_law_long" = some (some (.ref f_law_long)))
  (l_law_long : K.lookup f_law_long = some ⟨oc_law_long, od_law_long, .func (PySem.W.fnOf "_law_long" "_law_long" (defArgs s_law_long) (defBody s_law_long) (defScope s_law_long) .none kV_law_long dc_law_long pm_law_long an_law_long cd_law_long ct_law_long), sl_law_long⟩)
  (c_law_long : PySem.W.codeIn K cd_law_long "_law_long" = true)
  (k_law_long : PySem.W.keepIn K (.ref f_law_long) = true)
  (a_law_is_number : PySem.W.nsIn K mainGlobals "_law_is_number" = some (some (.ref f_law_is_number)))
  (l_law_is_number : K.lookup f_law_is_number = some ⟨oc_law_is_number, od_law_is_number, .func (PySem.W.fnOf "_law_is_number" "_law_is_number" (defArgs s_law_is_number) (defBody s_law_is_number) (defScope s_law_is_number) .none kV_law_is_number dc_law_is_number pm_law_is_number an_law_is_number cd_law_is_number ct_law_is_number), sl_law_is_number⟩)
  (c_law_is_number : PySem.W.codeIn K cd_law_is_number "_law_is_number" = true)
  (k_law_is_number : PySem.W.keepIn K (.ref f_law_is_number) = true)
  (a_law_altered : PySem.W.nsIn K mainGlobals "_law_altered" = some (some (.ref f_law_altered)))
  (l_law_altered : K.lookup f_law_altered = some ⟨oc_law_altered, od_law_altered, .func (PySem.W.fnOf "_law_altered" "_law_altered" (defArgs s_law_altered) (defBody s_law_altered) (defScope s_law_altered) .none kV_law_altered dc_law_altered pm_law_altered an_law_altered cd_law_altered ct_law_altered), sl_law_altered⟩)
  (c_law_altered : PySem.W.codeIn K cd_law_altered "_law_altered" = true)
  (k_law_altered : PySem.W.keepIn K (.ref f_law_altered) = true)
  (a_law_want : PySem.W.nsIn K mainGlobals "_law_want" = some (some (.ref f_law_want)))
  (l_law_want : K.lookup f_law_want = some ⟨oc_law_want, od_law_want, .func (PySem.W.fnOf "_law_want" "_law_want" (defArgs s_law_want) (defBody s_law_want) (defScope s_law_want) .none kV_law_want dc_law_want pm_law_want an_law_want cd_law_want ct_law_want), sl_law_want⟩)
  (c_law_want : PySem.W.codeIn K cd_law_want "_law_want" = true)
  (k_law_want : PySem.W.keepIn K (.ref f_law_want) = true)
  (a_law_got : PySem.W.nsIn K mainGlobals "_law_got" = some (some (.ref f_law_got)))
  (l_law_got : K.lookup f_law_got = some ⟨oc_law_got, od_law_got, .func (PySem.W.fnOf "_law_got" "_law_got" (defArgs s_law_got) (defBody s_law_got) (defScope s_law_got) .none kV_law_got dc_law_got pm_law_got an_law_got cd_law_got ct_law_got), sl_law_got⟩)
  (c_law_got : PySem.W.codeIn K cd_law_got "_law_got" = true)
  (k_law_got : PySem.W.keepIn K (.ref f_law_got) = true)
  (a_law : PySem.W.nsIn K mainGlobals "law" = some (some (.ref f_law)))
  (l_law : K.lookup f_law = some ⟨oc_law, od_law, .func (PySem.W.fnOf "law" "law" (defArgs s_law) (defBody s_law) (defScope s_law) .none kV_law dc_law pm_law an_law cd_law ct_law), sl_law⟩)
  (c_law : PySem.W.codeIn K cd_law "law" = true)
  (k_law : PySem.W.keepIn K (.ref f_law) = true)
  (a_LimitExceeded : PySem.W.nsIn K mainGlobals "LimitExceeded" = some (some (.ref C_LimitExceeded)))
  (x_LimitExceeded : K.lookup C_LimitExceeded = some (excClassObj nm_LimitExceeded q_LimitExceeded C_LimitExceeded N_LimitExceeded bs_LimitExceeded bm_LimitExceeded true sn_LimitExceeded sub_LimitExceeded ab_LimitExceeded col_LimitExceeded dd_LimitExceeded m0_LimitExceeded m1_LimitExceeded m2_LimitExceeded m3_LimitExceeded m5_LimitExceeded "OverflowError.__new__"))
  (xt_LimitExceeded : PySem.W.excTail [.type "OverflowError", .type "ArithmeticError", .type "Exception", .type "BaseException", .type "object"] bm_LimitExceeded = true)
  (ov_LimitExceeded : PySem.W.excOver K C_LimitExceeded [.type "OverflowError", .type "ArithmeticError", .type "Exception", .type "BaseException", .type "object"] = true)
  (sa_LimitExceeded : PySem.W.findIn K (.ref C_LimitExceeded) "__setattr__" = some (some (.builtin "object.__setattr__")))
  (ga_LimitExceeded : PySem.W.findIn K (.ref C_LimitExceeded) "__getattribute__" = some (some (.builtin "BaseException.__getattribute__")))
  (gg_LimitExceeded : PySem.W.findIn K (.ref C_LimitExceeded) "__getattr__" = some none)
  (nn_LimitExceeded : PySem.W.findIn K (.ref C_LimitExceeded) "limit" = some none)
  (ii_LimitExceeded : PySem.W.findIn K (.ref C_LimitExceeded) "__init__" = some (some (.ref I_LimitExceeded)))
  (cc_LimitExceeded : PySem.W.findIn K (.ref C_LimitExceeded) "__class__" = some (some (.builtin "object.__class__")))
  (ti_LimitExceeded : PySem.W.typeIn K (.ref I_LimitExceeded) = some (.type "function"))
  (kc_LimitExceeded : PySem.W.keepIn K (.ref C_LimitExceeded) = true)
  (ex_LimitExceeded : PySem.W.subIn K (.ref C_LimitExceeded) (.type "BaseException") = some true)
  (tc_LimitExceeded : PySem.W.typeIn K (.ref C_LimitExceeded) = some (.type "type"))
  (hd_LimitExceeded : PySem.W.hasDictIn K C_LimitExceeded = true)
  (te_LimitExceeded : PySem.W.exmOne K (.ref C_LimitExceeded) (.ref C_LimitExceeded) = some true)
  (cn_LimitExceeded : PySem.W.specialIn K (.builtin "object.__class__") "__get__" = some (some (.builtin "getset_descriptor.__get__")))
  (ct_LimitExceeded : PySem.W.takesIn K (.builtin "object.__class__") = some true)
  (cm_LimitExceeded : PySem.W.mroIn K C_LimitExceeded (.type "object") = some true)
  (li_LimitExceeded : K.lookup I_LimitExceeded = some ⟨oc_LimitExceeded, od_LimitExceeded, .func (PySem.W.fnOf "__init__" "LimitExceeded.__init__" (defArgs (inClass (top 2) 0)) (defBody (inClass (top 2) 0)) (defScope (inClass (top 2) 0)) .none .none dc_LimitExceeded pm_LimitExceeded an_LimitExceeded cd_LimitExceeded cv_LimitExceeded), sl_LimitExceeded⟩)
  (ci_LimitExceeded : PySem.W.codeIn K cd_LimitExceeded "LimitExceeded.__init__" = true)
  (a_HeadError : PySem.W.nsIn K mainGlobals "HeadError" = some (some (.ref C_HeadError)))
  (n_MAX_PLACE : PySem.W.nsIn K mainGlobals "MAX_PLACE" = some (some (.int 1000 t_MAX_PLACE)))
  (n_MAX_DIGITS : PySem.W.nsIn K mainGlobals "MAX_DIGITS" = some (some (.int 300 t_MAX_DIGITS)))
  (z_OverflowError : PySem.W.nsIn K mainGlobals "OverflowError" = some none)
  (z_abs : PySem.W.nsIn K mainGlobals "abs" = some none)
  (z_bool : PySem.W.nsIn K mainGlobals "bool" = some none)
  (z_enumerate : PySem.W.nsIn K mainGlobals "enumerate" = some none)
  (z_int : PySem.W.nsIn K mainGlobals "int" = some none)
  (z_isinstance : PySem.W.nsIn K mainGlobals "isinstance" = some none)
  (z_len : PySem.W.nsIn K mainGlobals "len" = some none)
  (z_list : PySem.W.nsIn K mainGlobals "list" = some none)
  (z_max : PySem.W.nsIn K mainGlobals "max" = some none)
  (z_range : PySem.W.nsIn K mainGlobals "range" = some none)
  (z_repr : PySem.W.nsIn K mainGlobals "repr" = some none)
  (z_reversed : PySem.W.nsIn K mainGlobals "reversed" = some none)
  (z_tuple : PySem.W.nsIn K mainGlobals "tuple" = some none)
  (x_isOverflow : PySem.W.kitOne K (.ref C_LimitExceeded) (.type "OverflowError") = some true)
  (x_isHead : PySem.W.kitOne K (.ref C_LimitExceeded) (.ref C_HeadError) = some false)
  : Tx K mg :=
  { f_is_whole := _, fd_is_whole := _, is_whole := ⟨fun_mk (st := s_is_whole) l_is_whole c_is_whole k_is_whole, PySem.W.mg_of X G a_is_whole, (fun_mk (st := s_is_whole) l_is_whole c_is_whole k_is_whole).binds (ps := ["value"]) fun _ _ _ _ _ _ us hl => match us, hl with | [_], _ => rfl⟩,
    f_is_within := _, fd_is_within := _, is_within := ⟨fun_mk (st := s_is_within) l_is_within c_is_within k_is_within, PySem.W.mg_of X G a_is_within, (fun_mk (st := s_is_within) l_is_within c_is_within k_is_within).binds (ps := ["value", "low", "high"]) fun _ _ _ _ _ _ us hl => match us, hl with | [_, _, _], _ => rfl⟩,
    f_is_place := _, fd_is_place := _, is_place := ⟨fun_mk (st := s_is_place) l_is_place c_is_place k_is_place, PySem.W.mg_of X G a_is_place, (fun_mk (st := s_is_place) l_is_place c_is_place k_is_place).binds (ps := ["value"]) fun _ _ _ _ _ _ us hl => match us, hl with | [_], _ => rfl⟩,
    f_power_of := _, fd_power_of := _, power_of := ⟨fun_mk (st := s_power_of) l_power_of c_power_of k_power_of, PySem.W.mg_of X G a_power_of, (fun_mk (st := s_power_of) l_power_of c_power_of k_power_of).binds (ps := ["base", "count"]) fun _ _ _ _ _ _ us hl => match us, hl with | [_, _], _ => rfl⟩,
    f_is_number := _, fd_is_number := _, is_number := ⟨fun_mk (st := s_is_number) l_is_number c_is_number k_is_number, PySem.W.mg_of X G a_is_number, (fun_mk (st := s_is_number) l_is_number c_is_number k_is_number).binds (ps := ["base", "value"]) fun _ _ _ _ _ _ us hl => match us, hl with | [_, _], _ => rfl⟩,
    f_make_number := _, fd_make_number := _, make_number := ⟨fun_mk (st := s_make_number) l_make_number c_make_number k_make_number, PySem.W.mg_of X G a_make_number, (fun_mk (st := s_make_number) l_make_number c_make_number k_make_number).binds (ps := ["base", "numerator", "exponent"]) fun _ _ _ _ _ _ us hl => match us, hl with | [_, _, _], _ => rfl⟩,
    f_has_few_digits := _, fd_has_few_digits := _, has_few_digits := ⟨fun_mk (st := s_has_few_digits) l_has_few_digits c_has_few_digits k_has_few_digits, PySem.W.mg_of X G a_has_few_digits, (fun_mk (st := s_has_few_digits) l_has_few_digits c_has_few_digits k_has_few_digits).binds (ps := ["numerator"]) fun _ _ _ _ _ _ us hl => match us, hl with | [_], _ => rfl⟩,
    f_without_factors := _, fd_without_factors := _, without_factors := ⟨fun_mk (st := s_without_factors) l_without_factors c_without_factors k_without_factors, PySem.W.mg_of X G a_without_factors, (fun_mk (st := s_without_factors) l_without_factors c_without_factors k_without_factors).binds (ps := ["base", "numerator"]) fun _ _ _ _ _ _ us hl => match us, hl with | [_, _], _ => rfl⟩,
    f_law_numbers := _, fd_law_numbers := _, law_numbers := ⟨fun_mk (st := s_law_numbers) l_law_numbers c_law_numbers k_law_numbers, PySem.W.mg_of X G a_law_numbers, (fun_mk (st := s_law_numbers) l_law_numbers c_law_numbers k_law_numbers).binds (ps := ["_law_cell", "_law_salt", "_law_sizes"]) fun _ _ _ _ _ _ us hl => match us, hl with | [_, _, _], _ => rfl⟩,
    f_law_power := _, fd_law_power := _, law_power := ⟨fun_mk (st := s_law_power) l_law_power c_law_power k_law_power, PySem.W.mg_of X G a_law_power, (fun_mk (st := s_law_power) l_law_power c_law_power k_law_power).binds (ps := ["_law_base_here", "_law_count"]) fun _ _ _ _ _ _ us hl => match us, hl with | [_, _], _ => rfl⟩,
    f_law_form := _, fd_law_form := _, law_form := ⟨fun_mk (st := s_law_form) l_law_form c_law_form k_law_form, PySem.W.mg_of X G a_law_form, (fun_mk (st := s_law_form) l_law_form c_law_form k_law_form).binds (ps := ["_law_base_here", "_law_numerator", "_law_exponent"]) fun _ _ _ _ _ _ us hl => match us, hl with | [_, _, _], _ => rfl⟩,
    f_law_base := _, fd_law_base := _, law_base := ⟨fun_mk (st := s_law_base) l_law_base c_law_base k_law_base, PySem.W.mg_of X G a_law_base, (fun_mk (st := s_law_base) l_law_base c_law_base k_law_base).binds (ps := ["_law_digit"]) fun _ _ _ _ _ _ us hl => match us, hl with | [_], _ => rfl⟩,
    f_law_integer := _, fd_law_integer := _, law_integer := ⟨fun_mk (st := s_law_integer) l_law_integer c_law_integer k_law_integer, PySem.W.mg_of X G a_law_integer, (fun_mk (st := s_law_integer) l_law_integer c_law_integer k_law_integer).binds (ps := ["_law_digits"]) fun _ _ _ _ _ _ us hl => match us, hl with | [_], _ => rfl⟩,
    f_law_number := _, fd_law_number := _, law_number := ⟨fun_mk (st := s_law_number) l_law_number c_law_number k_law_number, PySem.W.mg_of X G a_law_number, (fun_mk (st := s_law_number) l_law_number c_law_number k_law_number).binds (ps := ["_law_base_here", "_law_digits"]) fun _ _ _ _ _ _ us hl => match us, hl with | [_, _], _ => rfl⟩,
    f_law_is_integer := _, fd_law_is_integer := _, law_is_integer := ⟨fun_mk (st := s_law_is_integer) l_law_is_integer c_law_is_integer k_law_is_integer, PySem.W.mg_of X G a_law_is_integer, (fun_mk (st := s_law_is_integer) l_law_is_integer c_law_is_integer k_law_is_integer).binds (ps := ["_law_value"]) fun _ _ _ _ _ _ us hl => match us, hl with | [_], _ => rfl⟩,
    f_law_long := _, fd_law_long := _, law_long := ⟨fun_mk (st := s_law_long) l_law_long c_law_long k_law_long, PySem.W.mg_of X G a_law_long, (fun_mk (st := s_law_long) l_law_long c_law_long k_law_long).binds (ps := []) fun _ _ _ _ _ _ us hl => match us, hl with | [], _ => rfl⟩,
    f_law_is_number := _, fd_law_is_number := _, law_is_number := ⟨fun_mk (st := s_law_is_number) l_law_is_number c_law_is_number k_law_is_number, PySem.W.mg_of X G a_law_is_number, (fun_mk (st := s_law_is_number) l_law_is_number c_law_is_number k_law_is_number).binds (ps := ["_law_base_here", "_law_value"]) fun _ _ _ _ _ _ us hl => match us, hl with | [_, _], _ => rfl⟩,
    f_law_altered := _, fd_law_altered := _, law_altered := ⟨fun_mk (st := s_law_altered) l_law_altered c_law_altered k_law_altered, PySem.W.mg_of X G a_law_altered, (fun_mk (st := s_law_altered) l_law_altered c_law_altered k_law_altered).binds (ps := ["_law_base_here", "_law_number_here", "_law_digits"]) fun _ _ _ _ _ _ us hl => match us, hl with | [_, _, _], _ => rfl⟩,
    f_law_want := _, fd_law_want := _, law_want := ⟨fun_mk (st := s_law_want) l_law_want c_law_want k_law_want, PySem.W.mg_of X G a_law_want, (fun_mk (st := s_law_want) l_law_want c_law_want k_law_want).binds (ps := ["_law_base_here", "_law_numerator", "_law_exponent"]) fun _ _ _ _ _ _ us hl => match us, hl with | [_, _, _], _ => rfl⟩,
    f_law_got := _, fd_law_got := _, law_got := ⟨fun_mk (st := s_law_got) l_law_got c_law_got k_law_got, PySem.W.mg_of X G a_law_got, (fun_mk (st := s_law_got) l_law_got c_law_got k_law_got).binds (ps := ["_law_base_here", "_law_numerator", "_law_exponent"]) fun _ _ _ _ _ _ us hl => match us, hl with | [_, _, _], _ => rfl⟩,
    f_law := _, fd_law := _, law := ⟨fun_mk (st := s_law) l_law c_law k_law, PySem.W.mg_of X G a_law, (fun_mk (st := s_law) l_law c_law k_law).binds (ps := ["_law_script"]) fun _ _ _ _ _ _ us hl => match us, hl with | [_], _ => rfl⟩,
    C_LimitExceeded := _, fI_LimitExceeded := _, LimitExceeded := { gC := PySem.W.mg_of X G a_LimitExceeded, cls := ⟨_, _, _, _, _, _, _, _, _, _, _, _, _, _, _, x_LimitExceeded, xt_LimitExceeded⟩, FB := ⟨_, PySem.F.excBase_OverflowError⟩, SF := PySem.F.store_OverflowError, over := ov_LimitExceeded, sa := sa_LimitExceeded, ga := ga_LimitExceeded, gg := gg_LimitExceeded, noN := nn_LimitExceeded, iC := ii_LimitExceeded, tC := ti_LimitExceeded, kC := kc_LimitExceeded, exC := ex_LimitExceeded, tyC := tc_LimitExceeded, hdC := hd_LimitExceeded, te := te_LimitExceeded, cc := cc_LimitExceeded, cn := cn_LimitExceeded, ct := ct_LimitExceeded, cm := cm_LimitExceeded, fn := ⟨_, _, _, _, _, _, _, _, (inClass (top 2) 0), _, li_LimitExceeded, ci_LimitExceeded, ⟨⟨_, _, _, _, rfl⟩, rfl, rfl, rfl, rfl, rfl, by decide +kernel, by decide +kernel, fun _ _ _ _ _ _ _ => rfl, fun _ _ _ => rfl, fun _ _ _ => rfl, fun _ _ _ _ _ _ _ => rfl⟩⟩ },
    C_HeadError := _, h_HeadError := PySem.W.mg_of X G a_HeadError,
    t_MAX_PLACE := _, c_MAX_PLACE := PySem.W.mg_of X G n_MAX_PLACE,
    t_MAX_DIGITS := _, c_MAX_DIGITS := PySem.W.mg_of X G n_MAX_DIGITS,
    b_OverflowError := PySem.W.mg_none_of X G z_OverflowError,
    b_abs := PySem.W.mg_none_of X G z_abs,
    b_bool := PySem.W.mg_none_of X G z_bool,
    b_enumerate := PySem.W.mg_none_of X G z_enumerate,
    b_int := PySem.W.mg_none_of X G z_int,
    b_isinstance := PySem.W.mg_none_of X G z_isinstance,
    b_len := PySem.W.mg_none_of X G z_len,
    b_list := PySem.W.mg_none_of X G z_list,
    b_max := PySem.W.mg_none_of X G z_max,
    b_range := PySem.W.mg_none_of X G z_range,
    b_repr := PySem.W.mg_none_of X G z_repr,
    b_reversed := PySem.W.mg_none_of X G z_reversed,
    b_tuple := PySem.W.mg_none_of X G z_tuple,
    x_isOverflow := x_isOverflow,
    x_isHead := x_isHead }
end K02

namespace K02
open PySem L2 GL

/-- is_whole(value) -/
def sp_whole (K : PySem.W.Frag) : Sp := fun vs H Q _ => ∃ v o, vs = [v] ∧ Kd K H v o ∧ Q (.bl o.isSome) H
/-- whether a value is an integer within lo .. hi -/
def within (o : Option Int) (lo hi : Int) : Bool := match o with
  | some i => decide (lo ≤ i ∧ i ≤ hi)
  | none => false
def sp_within (K : PySem.W.Frag) : Sp := fun vs H Q _ => ∃ v o lo hi, vs = [v, .int lo, .int hi] ∧ Kd K H v o ∧ Q (.bl (within o lo hi)) H
def sp_place (K : PySem.W.Frag) : Sp := fun vs H Q _ => ∃ v o, vs = [v] ∧ Kd K H v o ∧ Q (.bl (within o (-1000) 1000)) H

theorem ok_is_whole {P : Program} {w : World} {K : PySem.W.Frag} {mg : Str → Option Value} {base : Heap} (T : Tx K mg) : FnOk P w K mg base CX0 1 T.f_is_whole T.fd_is_whole ["value"] (sp_whole K) := by
  refine (T.is_whole.F.ok sc_is_whole (fun vs H Q E h => ?_) (fun cdv A outer s H vs Q E hr h => ?_))
  · obtain ⟨v, o, rfl, hk, k⟩ := h
    rfl
  · obtain ⟨v, o, rfl, hk, k⟩ := h
    have hu := hu_of hr
    refine ⟨_, (pss_one (ps_ret (pe_and (pe_callB call_isi (by rfl) T.b_isinstance (by decide +kernel) (pa_cons (pv 0) (pa_cons (pe_bltn (v := .ty "int") (by rfl) T.b_int (by decide +kernel) rfl) pa_nil))) (pe_one (pe_not (pe_callB call_isi (by rfl) T.b_isinstance (by decide +kernel) (pa_cons (pv 0) (pa_cons (pe_bltn (v := .ty "bool") (by rfl) T.b_bool (by decide +kernel) rfl) pa_nil)))))))), ?_⟩
    obtain ⟨t, b1, b2, ty, e1, e2, e3⟩ := hk.ask
    refine ⟨_, rfl, _, _, _, _, b1, rfl, .ty _, ty, kit_ty e1, _, rfl, ?_⟩
    cases b1 with
    | false =>
      refine iteF ?_
      rw [← e3] at k
      exact k
    | true =>
      refine iteT ?_
      refine ⟨_, rfl, _, _, _, _, b2, rfl, .ty _, ty, kit_ty e2, _, rfl, ?_⟩
      rw [← e3] at k
      exact k

theorem ok_law_is_integer {P : Program} {w : World} {K : PySem.W.Frag} {mg : Str → Option Value} {base : Heap} (T : Tx K mg) : FnOk P w K mg base CX0 1 T.f_law_is_integer T.fd_law_is_integer ["_law_value"] (sp_whole K) := by
  refine (T.law_is_integer.F.ok sc_law_is_integer (fun vs H Q E h => ?_) (fun cdv A outer s H vs Q E hr h => ?_))
  · obtain ⟨v, o, rfl, hk, k⟩ := h
    rfl
  · obtain ⟨v, o, rfl, hk, k⟩ := h
    have hu := hu_of hr
    refine ⟨_, (pss_one (ps_ret (pe_and (pe_callB call_isi (by rfl) T.b_isinstance (by decide +kernel) (pa_cons (pv 0) (pa_cons (pe_bltn (v := .ty "int") (by rfl) T.b_int (by decide +kernel) rfl) pa_nil))) (pe_one (pe_not (pe_callB call_isi (by rfl) T.b_isinstance (by decide +kernel) (pa_cons (pv 0) (pa_cons (pe_bltn (v := .ty "bool") (by rfl) T.b_bool (by decide +kernel) rfl) pa_nil)))))))), ?_⟩
    obtain ⟨t, b1, b2, ty, e1, e2, e3⟩ := hk.ask
    refine ⟨_, rfl, _, _, _, _, b1, rfl, .ty _, ty, kit_ty e1, _, rfl, ?_⟩
    cases b1 with
    | false =>
      refine iteF ?_
      rw [← e3] at k
      exact k
    | true =>
      refine iteT ?_
      refine ⟨_, rfl, _, _, _, _, b2, rfl, .ty _, ty, kit_ty e2, _, rfl, ?_⟩
      rw [← e3] at k
      exact k

theorem ok_is_within {P : Program} {w : World} {K : PySem.W.Frag} {mg : Str → Option Value} {base : Heap} (T : Tx K mg) : FnOk P w K mg base CX0 2 T.f_is_within T.fd_is_within ["value", "low", "high"] (sp_within K) := by
  have G_is_whole := ok_is_whole (P := P) (w := w) (base := base) T
  refine (T.is_within.F.ok sc_is_within (fun vs H Q E h => ?_) (fun cdv A outer s H vs Q E hr h => ?_))
  · obtain ⟨v, o, lo, hi, rfl, hk, k⟩ := h
    rfl
  · obtain ⟨v, o, lo, hi, rfl, hk, k⟩ := h
    have hu := hu_of hr
    refine ⟨_, (pss_one (ps_ret (pe_and (pe_call G_is_whole (hr.mono (by decide)) rfl T.is_whole.g T.is_whole.F.kp T.is_whole.b .nil pass0 (pa_cons (pv 0) pa_nil)) (pe_one (pe_chain op_le op_le (pv 1) (pv 0) (pv 2)))))), ?_⟩
    refine ⟨_, rfl, v, o, rfl, hk, _, rfl, ?_⟩
    cases o with
    | none => exact iteF k
    | some i =>
      refine iteT ?_
      have e := hk.int_of
      subst e
      refine ⟨_, rfl, _, rfl, _, _, rfl, rfl, _, rfl, ?_⟩
      by_cases h1 : lo ≤ i
      · rw [decide_eq_true h1]
        refine iteT ⟨_, rfl, _, _, rfl, rfl, ?_⟩
        simpa [within, h1] using k
      · rw [decide_eq_false h1]
        refine iteF ?_
        simpa [within, h1] using k

theorem ok_is_place {P : Program} {w : World} {K : PySem.W.Frag} {mg : Str → Option Value} {base : Heap} (T : Tx K mg) : FnOk P w K mg base CX0 3 T.f_is_place T.fd_is_place ["value"] (sp_place K) := by
  have G_is_within := ok_is_within (P := P) (w := w) (base := base) T
  refine (T.is_place.F.ok sc_is_place (fun vs H Q E h => ?_) (fun cdv A outer s H vs Q E hr h => ?_))
  · obtain ⟨v, o, rfl, hk, k⟩ := h
    rfl
  · obtain ⟨v, o, rfl, hk, k⟩ := h
    have hu := hu_of hr
    refine ⟨_, (pss_one (ps_ret (pe_call G_is_within (hr.mono (by decide)) rfl T.is_within.g T.is_within.F.kp T.is_within.b .nil pass0 (pa_cons (pv 0) (pa_cons (pe_un un_neg (pe_glob (v := .int 1000) rfl T.c_MAX_PLACE ⟨_, rfl⟩)) (pa_cons (pe_glob (v := .int 1000) rfl T.c_MAX_PLACE ⟨_, rfl⟩) pa_nil)))))), ?_⟩
    exact ⟨_, rfl, _, rfl, v, o, -1000, 1000, rfl, hk, k⟩


/-- power_of(base, count) -/
def sp_power : Sp := fun vs H Q _ => ∃ (b : Int) (c : Nat), vs = [.int b, .int (c : Int)] ∧ 2 ≤ b ∧ b ≤ 36 ∧ c ≤ 10000 ∧ Q (.int (b ^ c)) H

theorem ok_power_of {P : Program} {w : World} {K : PySem.W.Frag} {mg : Str → Option Value} {base : Heap} (T : Tx K mg) : FnOk P w K mg base CX0 1 T.f_power_of T.fd_power_of ["base", "count"] sp_power := by
  refine (T.power_of.F.ok sc_power_of (fun vs H Q E h => ?_) (fun cdv A outer s H vs Q E hr h => ?_))
  · obtain ⟨b, c, rfl, hb0, hb, hc, k⟩ := h
    rfl
  · obtain ⟨b, c, rfl, hb0, hb, hc, k⟩ := h
    have hu := hu_of hr
    refine ⟨_, (pss_cons (ps_set (i := 2) sc_power_of.nd rfl (Or.inl rfl) pe_int)
        (pss_cons (ps_for PassesOwn.never rfl (pi_range3 rfl T.b_range (pa_cons (pe_op op_sub (pe_bits (pv 1)) pe_int) (pa_cons (pe_un un_neg pe_int) (pa_cons (pe_un un_neg pe_int) pa_nil)))) (pg_name (i := 3) sc_power_of.nd rfl (Or.inl rfl)) (pss_cons (ps_aug (i := 2) sc_power_of.nd rfl (Or.inl rfl) (pv 2) iop_mulW)
        (pss_one (ps_if (pt_truth (pe_op op_odd (pe_op op_shrN (pv 1) (pv 3)) pe_int) (fun _ => rfl)) (pss_one (ps_aug (i := 2) sc_power_of.nd rfl (Or.inl rfl) (pv 0) iop_mulW)) pss_nil))))
        (pss_one (ps_ret (pv 2))))), ?_⟩
    have hbits : Builtin.Int.intBits (c : Int) ≤ 14 := NM.bits_le (by omega)
    generalize hn : Builtin.Int.intBits (c : Int) = n at hbits
    have hlt : c < 2 ^ n := by rw [← hn]; exact NM.lt_bits c
    refine ⟨_, rfl, (c : Int), rfl, _, _, rfl, rfl, 1, rfl, 1, rfl, (n : Int) - 1, -1, -1, ((n : Int) - 1 - -1).toNat, by rw [hn], RgC.neg (by omega) (by omega) (by omega) (by omega), ?_⟩
    have en : ((n : Int) - 1 - -1).toNat = n := by omega
    rw [en]
    refine for_rangeC (lo := (n : Int) - 1) (c := -1) (n := n) (fun i σ H' => H' = H ∧ ∃ v, σ = [some (.int b), some (.int (c : Int)), some (.int (b ^ (c / 2 ^ (n - i)))), v]) ?_ ?_ ?_
    · refine ⟨rfl, none, ?_⟩
      rw [Nat.sub_zero, Nat.div_eq_of_lt hlt, Int.pow_zero]
      rfl
    · rintro i σ H' hi ⟨rfl, v, rfl⟩
      have e1 : (n : Int) - 1 + (i : Int) * -1 = ((n - (i + 1) : Nat) : Int) := by omega
      rw [e1]
      generalize hk : n - (i + 1) = k
      have ek : n - i = k + 1 := by omega
      have small : c / 2 ^ (k + 1) ≤ 10000 := Nat.le_trans (Nat.div_le_self _ _) hc
      have small2 : 2 * (c / 2 ^ (k + 1)) ≤ 10000 := by
        have := NM.shift_step c k
        have h2 := Nat.div_le_self c (2 ^ k)
        omega
      rw [ek]
      have w1 : CMulW (b ^ (c / 2 ^ (k + 1))) (b ^ (c / 2 ^ (k + 1))) := wide_mul (NM.pow_small (by omega) hb _) (NM.pow_small (by omega) hb _) (by omega) (by omega) (by omega)
      refine ⟨_, rfl, _, rfl, _, _, rfl, rfl, w1, ?_⟩
      have sq := NM.pow_two_mul b (c / 2 ^ (k + 1))
      refine ⟨_, rfl, _, rfl, (c : Int), k, rfl, rfl, c / 2 ^ k, by simp, rfl, _, rfl, ?_⟩
      have st := NM.shift_step c k
      rcases Nat.mod_two_eq_zero_or_one (c / 2 ^ k) with z | z
      · rw [z] at st ⊢
        refine iteF ?_
        refine ⟨rfl, some (.int (k : Int)), ?_⟩
        have e : b ^ (c / 2 ^ k) = b ^ (c / 2 ^ (k + 1)) * b ^ (c / 2 ^ (k + 1)) := by rw [sq, st, Nat.add_zero]
        rw [e]
        rfl
      · rw [z] at st ⊢
        refine iteT ?_
        have w2 : CMulW (b ^ (c / 2 ^ (k + 1)) * b ^ (c / 2 ^ (k + 1))) b := by
          rw [sq]
          exact wide_mul (NM.pow_small (by omega) hb _) (b := 7) (by omega) (by omega) (by omega) (by omega)
        refine ⟨_, rfl, _, rfl, _, _, rfl, rfl, w2, ?_⟩
        refine ⟨rfl, some (.int (k : Int)), ?_⟩
        have e : b ^ (c / 2 ^ k) = b ^ (c / 2 ^ (k + 1)) * b ^ (c / 2 ^ (k + 1)) * b := by rw [sq, st, Int.pow_succ]
        rw [e]
        rfl
    · rintro σ H' ⟨rfl, v, rfl⟩
      refine ⟨_, rfl, ?_⟩
      rw [Nat.sub_self, Nat.pow_zero, Nat.div_one]
      exact k

end K02

namespace K02
open PySem L2 GL

/-- fewer than three hundred and one digits -/
def fewB (n : Int) : Bool := decide ((if n < 0 then -n else n) < (10 : Int) ^ 300)
def sp_few : Sp := fun vs H Q _ => ∃ (n : Int), vs = [.int n] ∧ Q (.bl (fewB n)) H
/-- whether data is a number of the base b -/
def isNum (b : Int) : PyData → Bool
  | .tuple [.int n, .int e] => decide (-1000 ≤ e ∧ e ≤ 1000) && (if n = 0 then decide (e = 0) else decide (n % b ≠ 0) && fewB n)
  | _ => false
def sp_isnum (K : PySem.W.Frag) : Sp := fun vs H Q _ => ∃ (b : Int) (v : V) (d : PyData), vs = [.int b, v] ∧ 2 ≤ b ∧ b ≤ 36 ∧ ShD K H v d ∧ Q (.bl (isNum b d)) H
theorem isNum_other {b : Int} {d : PyData} (h : ∀ ds, d ≠ .tuple ds) : isNum b d = false := by
  unfold isNum
  split
  · exact absurd rfl (h _)
  · rfl
theorem isNum_len {b : Int} {ds : List PyData} (h : ds.length ≠ 2) : isNum b (.tuple ds) = false := by
  unfold isNum
  split
  · rename_i e
    cases e
    exact absurd rfl h
  · rfl
theorem isNum_two (b : Int) (x y : PyData) : isNum b (.tuple [x, y]) = (match intD x, intD y with
    | some n, some e => decide (-1000 ≤ e ∧ e ≤ 1000) && (if n = 0 then decide (e = 0) else decide (n % b ≠ 0) && fewB n)
    | _, _ => false) := by
  cases x <;> cases y <;> rfl

theorem ok_has_few_digits {P : Program} {w : World} {K : PySem.W.Frag} {mg : Str → Option Value} {base : Heap} (T : Tx K mg) : FnOk P w K mg base CX0 2 T.f_has_few_digits T.fd_has_few_digits ["numerator"] sp_few := by
  have G_power_of := ok_power_of (P := P) (w := w) (base := base) T
  refine (T.has_few_digits.F.ok sc_has_few_digits (fun vs H Q E h => ?_) (fun cdv A outer s H vs Q E hr h => ?_))
  · obtain ⟨n, rfl, k⟩ := h
    rfl
  · obtain ⟨n, rfl, k⟩ := h
    have hu := hu_of hr
    refine ⟨_, (pss_one (ps_ret (pe_cmpR op_lt (pe_callB call_abs (by rfl) T.b_abs (by decide +kernel) (pa_cons (pv 0) pa_nil)) (pe_call G_power_of (hr.mono (by decide)) rfl T.power_of.g T.power_of.F.kp T.power_of.b .nil pass0 (pa_cons pe_int (pa_cons (pe_glob (v := .int 300) rfl T.c_MAX_DIGITS ⟨_, rfl⟩) pa_nil))) (nomark _)))), ?_⟩
    exact ⟨_, rfl, n, rfl, 10, 300, rfl, by decide, by decide, by decide, _, _, rfl, rfl, k⟩

theorem ok_is_number {P : Program} {w : World} {K : PySem.W.Frag} {mg : Str → Option Value} {base : Heap} (T : Tx K mg) : FnOk P w K mg base CX0 4 T.f_is_number T.fd_is_number ["base", "value"] (sp_isnum K) := by
  have G_is_whole := ok_is_whole (P := P) (w := w) (base := base) T
  have G_is_place := ok_is_place (P := P) (w := w) (base := base) T
  have G_has_few_digits := ok_has_few_digits (P := P) (w := w) (base := base) T
  refine (T.is_number.F.ok sc_is_number (fun vs H Q E h => ?_) (fun cdv A outer s H vs Q E hr h => ?_))
  · obtain ⟨b, v, d, rfl, hb0, hb, hd, k⟩ := h
    rfl
  · obtain ⟨b, v, d, rfl, hb0, hb, hd, k⟩ := h
    have hu := hu_of hr
    refine ⟨_, (pss_cons (ps_if (PW.pt (pw_or (pt_not (pt_val (pe_callB call_isi (by rfl) T.b_isinstance (by decide +kernel) (pa_cons (pv 1) (pa_cons (pe_bltn (v := .ty "tuple") (by rfl) T.b_tuple (by decide +kernel) rfl) pa_nil))))) (pw_or1 (pt_cmpR op_ne (pe_callB call_len_seq (by rfl) T.b_len (by decide +kernel) (pa_cons (pv 1) pa_nil)) pe_int (nomark _))))) (pss_one (ps_ret pe_bl)) pss_nil)
        (pss_cons (ps_asg (pv 1) (pg_tup rfl (pgs_cons (pg_name (i := 2) sc_is_number.nd rfl (Or.inl rfl)) (pgs_cons (pg_name (i := 3) sc_is_number.nd rfl (Or.inl rfl)) pgs_nil))))
        (pss_cons (ps_if (PW.pt (pw_or (pt_not (pt_val (pe_call G_is_whole (hr.mono (by decide)) rfl T.is_whole.g T.is_whole.F.kp T.is_whole.b .nil pass0 (pa_cons (pv 2) pa_nil)))) (pw_or1 (pt_not (pt_val (pe_call G_is_place (hr.mono (by decide)) rfl T.is_place.g T.is_place.F.kp T.is_place.b .nil pass0 (pa_cons (pv 3) pa_nil))))))) (pss_one (ps_ret pe_bl)) pss_nil)
        (pss_cons (ps_if (pt_cmpR op_eq (pv 2) pe_int (nomark _)) (pss_one (ps_ret (pe_cmpR op_eq (pv 3) pe_int (nomark _)))) pss_nil)
        (pss_one (ps_ret (pe_and (pe_cmpR op_ne (pe_op op_mod (pv 2) (pv 0)) pe_int (nomark _)) (pe_one (pe_call G_has_few_digits (hr.mono (by decide)) rfl T.has_few_digits.g T.has_few_digits.F.kp T.has_few_digits.b .nil pass0 (pa_cons (pv 2) pa_nil)))))))))), ?_⟩
    rcases tuple_ask hd with ⟨a, xs, ds, rfl, hs, ha, rfl, ty⟩ | ⟨t, ty, e1, no⟩
    · refine ⟨_, rfl, _, _, _, _, true, rfl, .ty _, ty, kit_ty (by decide +kernel), _, rfl, ?_⟩
      refine iteF ?_
      refine ⟨_, rfl, a, xs, rfl, .inr hs, rfl, _, rfl, ?_⟩
      by_cases h2 : ds.length = 2
      · obtain ⟨x, y, d1, d2, rfl, rfl, g1, g2⟩ := kdAll_two ha h2
        refine iteF ?_
        refine ⟨_, rfl, a, _, rfl, hs, rfl, x, _, rfl, y, _, rfl, rfl, ?_⟩
        have k1 := g1
        have k2 := g2
        rw [isNum_two] at k
        generalize intD d1 = o1 at k k1 g1
        generalize intD d2 = o2 at k k2 g2
        refine ⟨_, rfl, x, o1, rfl, k1, _, rfl, ?_⟩
        cases o1 with
        | none => exact iteT k
        | some n =>
          have e1 := k1.int_of
          subst e1
          refine iteF ?_
          refine ⟨_, rfl, y, o2, rfl, k2, _, rfl, ?_⟩
          cases o2 with
          | none => exact iteT k
          | some e =>
            have e2 := k2.int_of
            subst e2
            by_cases hp : -1000 ≤ e ∧ e ≤ 1000
            · have hw : within (some e) (-1000) 1000 = true := decide_eq_true hp
              rw [hw]
              refine iteF ?_
              simp only [hp, and_self, decide_true, Bool.true_and] at k
              refine ⟨_, rfl, rfl, _, rfl, ?_⟩
              by_cases h0 : n = 0
              · subst h0
                refine iteT ?_
                refine ⟨_, rfl, rfl, ?_⟩
                rw [if_pos rfl] at k
                simpa using k
              · refine ifDn (vIn h0) ?_
                refine ⟨_, rfl, _, rfl, _, _, rfl, rfl, (by omega), rfl, _, rfl, ?_⟩
                rw [if_neg h0] at k
                by_cases hm : n % b = 0
                · refine ifNn (vI hm) ?_
                  simpa [hm] using k
                · refine ifN (vIn hm) ?_
                  refine ⟨_, rfl, n, rfl, ?_⟩
                  simpa [hm] using k
            · have hw : within (some e) (-1000) 1000 = false := decide_eq_false hp
              rw [hw]
              refine iteT ?_
              simp only [hp, decide_false, Bool.false_and] at k
              exact k
      · have hl : ¬ (V.int (xs.length : Int) = V.int 2) := fun z => h2 (by have q := V.int.inj z; have := kdAll_len ha; omega)
        refine ifN hl ?_
        rw [isNum_len h2] at k
        exact k
    · refine ⟨_, rfl, _, _, _, _, false, rfl, .ty _, ty, kit_ty e1, _, rfl, ?_⟩
      refine iteT ?_
      refine iteT ?_
      rw [isNum_other no] at k
      exact k

end K02

namespace K02
open PySem L2 GL

/-- the powers b, b ** 2, b ** 4 .. -/
def ps (b : Int) : Nat → List V
  | 0 => [.int (b ^ 2 ^ 0)]
  | m + 1 => ps b m ++ [.int (b ^ 2 ^ (m + 1))]
theorem ps_len (b : Int) : ∀ m, (ps b m).length = m + 1
  | 0 => rfl
  | m + 1 => by rw [ps, List.length_append, ps_len b m]; rfl
theorem ps_get (b : Int) : ∀ {m j}, j ≤ m → (ps b m)[j]? = some (.int (b ^ 2 ^ j))
  | 0, j, h => by
    have : j = 0 := by omega
    subst this
    rfl
  | m + 1, j, h => by
    rw [ps]
    by_cases q : j ≤ m
    · rw [List.getElem?_append_left (by rw [ps_len]; omega)]
      exact ps_get b q
    · have : j = m + 1 := by omega
      subst this
      rw [List.getElem?_append_right (by rw [ps_len]; omega), ps_len, Nat.sub_self]
      rfl
theorem ps_last (b : Int) (m : Nat) : atI (ps b m) (-1) = some (.int (b ^ 2 ^ m)) := by
  unfold atI ixN
  rw [if_neg (by decide), if_pos (by rw [ps_len]; omega)]
  show (ps b m)[((-1 : Int) + ((ps b m).length : Int)).toNat]? = _
  have e : ((-1 : Int) + ((ps b m).length : Int)).toNat = m := by rw [ps_len]; omega
  rw [e]
  exact ps_get b (Nat.le_refl m)
/-- without_factors(base, numerator) -/
def sp_wof : Sp := fun vs H Q _ => ∃ (b n : Int), vs = [.int b, .int n] ∧ 2 ≤ b ∧ b ≤ 36 ∧ n ≠ 0 ∧ n.natAbs < 2 ^ 7000 ∧
  ∀ (H' : Hp) (p : Addr) (s : Int) (f : Nat), Same H H' → H p = none → H' p = some (.tup [.int s, .int (f : Int)]) → n = s * b ^ f → s % b ≠ 0 → Q (.ref p) H'

theorem ok_without_factors {P : Program} {w : World} {K : PySem.W.Frag} {mg : Str → Option Value} {base : Heap} (T : Tx K mg) : FnOk P w K mg base CX0 1 T.f_without_factors T.fd_without_factors ["base", "numerator"] sp_wof := by
  refine (T.without_factors.F.ok sc_without_factors (fun vs H Q E h => ?_) (fun cdv A outer s H vs Q E hr h => ?_))
  · obtain ⟨b, n, rfl, hb0, hb, h0, hn, k⟩ := h
    rfl
  · obtain ⟨b, n, rfl, hb0, hb, h0, hn, k⟩ := h
    have hu := hu_of hr
    refine ⟨_, (pss_cons (ps_set (i := 2) sc_without_factors.nd rfl (Or.inl rfl) (pe_lst (pa_cons (pv 0) pa_nil)))
        (pss_cons (ps_while PassesOwn.never (pt_cmpR op_eq (pe_op op_mod (pv 1) (pe_op op_mulW (pe_ix ix_list (pv 2) (pe_un un_neg pe_int) (fun _ _ => rfl)) (pe_ix ix_list (pv 2) (pe_un un_neg pe_int) (fun _ _ => rfl)))) pe_int (nomark _)) (pss_one (ps_expr (pe_bm PySem.F.plainAttrs_list PySem.F.slot_list_append PySem.F.type_list_append mt_append (pv 2) (pa_cons (pe_op op_mulW (pe_ix ix_list (pv 2) (pe_un un_neg pe_int) (fun _ _ => rfl)) (pe_ix ix_list (pv 2) (pe_un un_neg pe_int) (fun _ _ => rfl))) pa_nil)))))
        (pss_cons (ps_set (i := 3) sc_without_factors.nd rfl (Or.inl rfl) pe_int)
        (pss_cons (ps_for PassesOwn.never rfl (pi_reversed (by rfl) T.b_reversed (pa_cons (pv 2) pa_nil)) (pg_name (i := 4) sc_without_factors.nd rfl (Or.inl rfl)) (pss_cons (ps_aug (i := 3) sc_without_factors.nd rfl (Or.inl rfl) pe_int iop_mul)
        (pss_one (ps_if (pt_cmpR op_eq (pe_op op_mod (pv 1) (pv 4)) pe_int (nomark _)) (pss_cons (ps_aug (i := 1) sc_without_factors.nd rfl (Or.inl rfl) (pv 4) iop_fdivW)
        (pss_one (ps_aug (i := 3) sc_without_factors.nd rfl (Or.inl rfl) pe_int iop_add))) pss_nil))))
        (pss_one (ps_ret (pe_tup (pa_cons (pv 1) (pa_cons (pv 3) pa_nil))))))))), ?_⟩
    refine ⟨_, rfl, (by show 1 ≤ sizeLine; decide), fun p hp => ?_⟩
    refine ⟨fun μ σ H' => ∃ m, μ = 20 - m ∧ m ≤ 12 ∧ σ = [some (.int b), some (.int n), some (.ref p), none, none] ∧ H' p = some (.lst (ps b m)) ∧ Same H H', ⟨20, 0, rfl, by decide, rfl, ?_, same_new (Same.refl H) hp⟩, ?_⟩
    · rw [upd_same]
      show _ = some (HO.lst [V.int (b ^ 2 ^ 0)])
      rw [Nat.pow_zero, Int.pow_succ, Int.pow_zero, Int.one_mul]
    rintro μ σ H' ⟨m, rfl, hm, rfl, hl, sm⟩
    have at1 := ps_last b m
    have big : (b ^ 2 ^ m).natAbs < 2 ^ (6 * 2 ^ m + 1) := NM.pow_small (by omega) hb _
    have le12 : 2 ^ m ≤ 2 ^ 12 := Nat.pow_le_pow_right (by decide) hm
    have w1 : CMulW (b ^ 2 ^ m) (b ^ 2 ^ m) := wide_mul big big (by omega) (by omega) (by omega)
    have sq := NM.sq_succ b m
    have pos : 0 < b ^ 2 ^ m * b ^ 2 ^ m := by rw [sq]; exact NM.pow_pos hb0 _
    refine ⟨_, rfl, _, rfl, _, rfl, p, _, _, _, rfl, rfl, SqL.of hl, at1, _, rfl, _, rfl, p, _, _, _, rfl, rfl, SqL.of hl, at1, _, _, rfl, rfl, w1, _, _, rfl, rfl, pos, rfl, _, rfl, ?_⟩
    by_cases hz : n % (b ^ 2 ^ m * b ^ 2 ^ m) = 0
    · refine ifD (vI hz) ?_
      rw [sq] at hz
      have lt := NM.exp_lt hb0 h0 hz hn
      have m12 := NM.lt_two_pow_12 lt
      refine ⟨fun σ' H2 => ∃ μ', μ' < 20 - m ∧ ∃ m, μ' = 20 - m ∧ m ≤ 12 ∧ σ' = [some (.int b), some (.int n), some (.ref p), none, none] ∧ H2 p = some (.lst (ps b m)) ∧ Same H H2, fun σ' H2 h => h, ?_⟩
      refine ⟨_, rfl, .inl ⟨rfl, _, SqL.of hl⟩, _, rfl, _, rfl, p, _, _, _, rfl, rfl, SqL.of hl, at1, _, rfl, _, rfl, p, _, _, _, rfl, rfl, SqL.of hl, at1, _, _, rfl, rfl, w1, p, _, _, rfl, rfl, hl, by rw [ps_len]; exact small1000 (by omega), ?_⟩
      refine ⟨20 - (m + 1), by omega, m + 1, rfl, m12, rfl, ?_, same_new sm hp⟩
      rw [upd_same]
      show some (HO.lst (ps b m ++ [V.int (b ^ 2 ^ m * b ^ 2 ^ m)])) = _
      rw [sq]
      rfl
    · refine ifDn (vIn hz) ?_
      rw [sq] at hz
      refine ⟨_, rfl, p, _, rfl, SqL.of hl, ?_⟩
      refine RT.for_Itv (xs := ps b m) (fun i σ H2 => H2 p = some (.lst (ps b m)) ∧ Same H H2 ∧ i ≤ m + 1 ∧ ∃ (s : Int) (f : Nat) (v : Option V), σ = [some (.int b), some (.int s), some (.ref p), some (.int (f : Int)), v] ∧ NM.Left b n s f (m + 1 - i)) ?_ ?_ ?_ ?_
      · exact ⟨hl, sm, Nat.zero_le _, n, 0, none, rfl, ⟨by simp, hz⟩⟩
      · rintro i σ H2 ⟨h1, _⟩
        exact SqL.of h1
      · rintro i x σ H2 hi hx ⟨h1, s1, h2, s, f, v, rfl, L⟩
        rw [ps_len] at hi hx
        have hj : m + 1 - 1 - i = m - i := by omega
        rw [hj, ps_get b (by omega)] at hx
        cases hx
        have eJ : m + 1 - i = (m - i) + 1 := by omega
        rw [eJ] at L
        have posj := NM.pow_pos hb0 (2 ^ (m - i))
        have eN : m + 1 - (i + 1) = m - i := by omega
        refine ⟨_, rfl, _, _, rfl, rfl, .inr ⟨by decide, by decide⟩, ?_⟩
        refine ⟨_, rfl, _, rfl, _, _, rfl, rfl, posj, rfl, _, rfl, ?_⟩
        by_cases hd : s % b ^ 2 ^ (m - i) = 0
        · refine ifD (vI hd) ?_
          have lt2 : 2 ^ (m - i) < 7000 := NM.exp_lt hb0 L.ne hd (Nat.lt_of_le_of_lt (L.le hb0) hn)
          have sm2 : (b ^ 2 ^ (m - i)).natAbs ≤ s.natAbs := Nat.le_of_dvd (by have := L.ne; omega) (Int.natAbs_dvd_natAbs.mpr (Int.dvd_of_emod_eq_zero hd))
          have wd : CDivW s (b ^ 2 ^ (m - i)) := wide_div posj (Nat.lt_of_le_of_lt (Nat.le_trans sm2 (L.le hb0)) hn) (by decide) (by decide)
          refine ⟨_, rfl, _, rfl, _, _, rfl, rfl, wd, ?_⟩
          refine ⟨_, rfl, _, _, rfl, rfl, ?_⟩
          refine ⟨h1, s1, by omega, _, f * 2 + 1, some (.int (b ^ 2 ^ (m - i))), ?_, by rw [eN]; exact L.take hb0 hd⟩
          have e : ((f * 2 + 1 : Nat) : Int) = (f : Int) * 2 + 1 := by omega
          rw [e]
          rfl
        · refine ifDn (vIn hd) ?_
          refine ⟨h1, s1, by omega, s, f * 2, some (.int (b ^ 2 ^ (m - i))), ?_, by rw [eN]; exact L.keep hd⟩
          have e : ((f * 2 : Nat) : Int) = (f : Int) * 2 := by omega
          rw [e]
          rfl
      · rintro σ H2 ⟨h1, s1, h2, s, f, v, rfl, L⟩
        rw [ps_len, Nat.sub_self] at L
        refine ⟨_, rfl, _, rfl, (by show 2 ≤ sizeLine; decide), fun q hq => ?_⟩
        refine k _ q s f (same_new s1 (s1.free hq)) (s1.free hq) upd_same ?_ ?_
        · have e := L.eq
          rw [Nat.pow_zero, Nat.mul_one] at e
          exact e
        · have e := L.no
          rw [Nat.pow_zero, Int.pow_succ, Int.pow_zero, Int.one_mul] at e
          exact e

end K02

namespace K02
open PySem L2 GL

/-- an error of LimitExceeded that carries v -/
def LimErr (C : Addr) (H : Hp) (E : XK) (v : Int) : Prop := ∀ (H' : Hp) (d : Addr), Same H H' → H d = none → H' d = some (.xd [("limit", .int v)]) → E (.ref C) (some d) H'
/-- a new tuple of two integers -/
def NewTup (H : Hp) (Q : VK) (i j : Int) : Prop := ∀ (H' : Hp) (p : Addr), Same H H' → H p = none → H' p = some (.tup [.int i, .int j]) → Q (.ref p) H'
/-- make_number(base, numerator, exponent) -/
def sp_make (C : Addr) : Sp := fun vs H Q E => ∃ (b n e : Int), vs = [.int b, .int n, .int e] ∧ 2 ≤ b ∧ b ≤ 36 ∧ n.natAbs < 2 ^ 7000 ∧ (n = 0 → NewTup H Q 0 0) ∧
  ∀ (s : Int) (f : Nat), n ≠ 0 → n = s * b ^ f → s % b ≠ 0 → (fewB s = false → LimErr C H E 300) ∧
    (fewB s = true → ¬ (-1000 ≤ e + f ∧ e + f ≤ 1000) → LimErr C H E 1000) ∧ (fewB s = true → (-1000 ≤ e + f ∧ e + f ≤ 1000) → NewTup H Q s (e + f))

theorem ok_make_number {P : Program} {w : World} {K : PySem.W.Frag} {mg : Str → Option Value} {base : Heap} (T : Tx K mg) : FnOk P w K mg base (L2.CX P w) 4 T.f_make_number T.fd_make_number ["base", "numerator", "exponent"] (sp_make T.C_LimitExceeded) := by
  have G_is_place := ok_is_place (P := P) (w := w) (base := base) T
  have G_has_few_digits := ok_has_few_digits (P := P) (w := w) (base := base) T
  have G_without_factors := ok_without_factors (P := P) (w := w) (base := base) T
  refine (T.make_number.F.okX sc_make_number (fun vs H Q E h => ?_) (fun cdv A outer s H vs Q E hr h => ?_))
  · obtain ⟨b, n, e, rfl, hb0, hb, hn, k0, k⟩ := h
    rfl
  · obtain ⟨b, n, e, rfl, hb0, hb, hn, k0, k⟩ := h
    have hu := hu_of hr
    refine ⟨_, (pss_cons (ps_if (pt_cmpR op_eq (pv 1) pe_int (nomark _)) (pss_one (ps_ret (pe_tup (pa_cons pe_int (pa_cons pe_int pa_nil))))) pss_nil)
        (pss_cons (ps_asg (pe_call G_without_factors (hr.mono (by decide)) rfl T.without_factors.g T.without_factors.F.kp T.without_factors.b .nil pass0 (pa_cons (pv 0) (pa_cons (pv 1) pa_nil))) (pg_tup rfl (pgs_cons (pg_name (i := 3) sc_make_number.nd rfl (Or.inl rfl)) (pgs_cons (pg_name (i := 4) sc_make_number.nd rfl (Or.inl rfl)) pgs_nil))))
        (pss_cons (ps_if (pt_not (pt_val (pe_call G_has_few_digits (hr.mono (by decide)) rfl T.has_few_digits.g T.has_few_digits.F.kp T.has_few_digits.b .nil pass0 (pa_cons (pv 3) pa_nil)))) (pss_one (ps_raiseErr rfl T.LimitExceeded hr (takes_of rfl rfl rfl rfl) (pa_cons (pe_glob (v := .int 300) rfl T.c_MAX_DIGITS ⟨_, rfl⟩) pa_nil))) pss_nil)
        (pss_cons (ps_if (pt_not (pt_val (pe_call G_is_place (hr.mono (by decide)) rfl T.is_place.g T.is_place.F.kp T.is_place.b .nil pass0 (pa_cons (pe_op op_add (pv 2) (pv 4)) pa_nil)))) (pss_one (ps_raiseErr rfl T.LimitExceeded hr (takes_of rfl rfl rfl rfl) (pa_cons (pe_glob (v := .int 1000) rfl T.c_MAX_PLACE ⟨_, rfl⟩) pa_nil))) pss_nil)
        (pss_one (ps_ret (pe_tup (pa_cons (pv 3) (pa_cons (pe_op op_add (pv 2) (pv 4)) pa_nil))))))))), ?_⟩
    refine ⟨_, rfl, rfl, _, rfl, ?_⟩
    by_cases h0 : n = 0
    · refine ifD (vI h0) ?_
      refine ⟨(by show 2 ≤ sizeLine; decide), fun p hp => ?_⟩
      exact k0 h0 _ p (same_new (Same.refl H) hp) hp upd_same
    refine ifDn (vIn h0) ?_
    refine ⟨_, rfl, _, rfl, b, n, rfl, hb0, hb, h0, hn, fun H1 p s f s1 hp h1 e1 no => ?_⟩
    obtain ⟨k1, k2, k3⟩ := k s f h0 e1 no
    refine ⟨p, _, rfl, SqT.of h1, rfl, _, _, rfl, _, _, rfl, rfl, ?_⟩
    refine ⟨_, rfl, s, rfl, _, rfl, ?_⟩
    cases hf : fewB s with
    | false =>
      refine iteT ?_
      refine ⟨_, rfl, fun d hd => ?_⟩
      exact k1 hf _ d (same_new s1 (s1.free hd)) (s1.free hd) upd_same
    | true =>
      refine iteF ?_
      refine ⟨_, rfl, _, rfl, _, _, rfl, rfl, _, some (e + f), rfl, .int _, _, rfl, ?_⟩
      by_cases hp : -1000 ≤ e + f ∧ e + f ≤ 1000
      · have hw : within (some (e + f)) (-1000) 1000 = true := decide_eq_true hp
        rw [hw]
        refine iteF ?_
        refine ⟨_, rfl, _, rfl, _, rfl, _, _, rfl, rfl, (by show 2 ≤ sizeLine; decide), fun q hq => ?_⟩
        exact k3 hf hp _ q (same_new s1 (s1.free hq)) (s1.free hq) upd_same
      · have hw : within (some (e + f)) (-1000) 1000 = false := decide_eq_false hp
        rw [hw]
        refine iteT ?_
        refine ⟨_, rfl, fun d hd => ?_⟩
        exact k2 hf hp _ d (same_new s1 (s1.free hd)) (s1.free hd) upd_same

end K02

namespace K02
open PySem L2 GL

theorem atI_int {xs : List V} {k : Int} {x : V} (h0 : 0 ≤ k) (h : xs[k.toNat]? = some x) : atI xs k = some x := by
  have e : k = ((k.toNat : Nat) : Int) := by omega
  rw [e]
  exact atI_nat h
theorem get_map {ns : List Int} {i : Nat} {z : Int} (h : ns[i]? = some z) : (ns.map V.int)[i]? = some (.int z) := by
  rw [List.getElem?_map, h]
  rfl
/-- digits below sizes -/
def Below (ds sz : List Int) : Prop := ∀ (i : Nat) (d z : Int), ds[i]? = some d → sz[i]? = some z → 0 ≤ d ∧ d < z
/-- _law_numbers(cell, salt, sizes) -/
def sp_numbers (K : PySem.W.Frag) : Sp := fun vs H Q _ => ∃ (cell salt : Int) (a : Addr) (sz : List Int), vs = [.int cell, .int salt, .ref a] ∧ 0 ≤ salt ∧ salt ≤ 20000 ∧
  SqL K H a (sz.map V.int) ∧ sz.length ≤ 500 ∧ (∀ z ∈ sz, 0 < z ∧ z ≤ 5000) ∧
  ∀ (H' : Hp) (p : Addr) (ds : List Int), Same H H' → H p = none → H' p = some (.lst (ds.map V.int)) → ds.length = sz.length → Below ds sz → Q (.ref p) H'
theorem below_more {ds sz : List Int} {x z : Int} (h : Below ds sz) (hz : sz[ds.length]? = some z) (h0 : 0 ≤ x) (h1 : x < z) : Below (ds ++ [x]) sz := by
  intro i d y hd hy
  by_cases q : i < ds.length
  · rw [List.getElem?_append_left q] at hd
    exact h i d y hd hy
  · rw [List.getElem?_append_right (by omega)] at hd
    have e : i = ds.length := by
      have := (List.getElem?_eq_some_iff.mp hd).1
      simp at this
      omega
    subst e
    rw [hz] at hy
    cases hy
    rw [Nat.sub_self] at hd
    cases hd
    exact ⟨h0, h1⟩
theorem map_more (ds : List Int) (x : Int) : (ds ++ [x]).map V.int = ds.map V.int ++ [.int x] := by simp

theorem ok_law_numbers {P : Program} {w : World} {K : PySem.W.Frag} {mg : Str → Option Value} {base : Heap} (T : Tx K mg) : FnOk P w K mg base CX0 1 T.f_law_numbers T.fd_law_numbers ["_law_cell", "_law_salt", "_law_sizes"] (sp_numbers K) := by
  refine (T.law_numbers.F.ok sc_law_numbers (fun vs H Q E h => ?_) (fun cdv A outer s H vs Q E hr h => ?_))
  · obtain ⟨cell, salt, a, sz, rfl, hs0, hs1, hS, hlen, hpos, k⟩ := h
    rfl
  · obtain ⟨cell, salt, a, sz, rfl, hs0, hs1, hS, hlen, hpos, k⟩ := h
    have hu := hu_of hr
    refine ⟨_, (pss_cons (ps_set (i := 3) sc_law_numbers.nd rfl (Or.inl rfl) (pe_callB (call_max2 rfl) (by rfl) T.b_max (by decide +kernel) (pa_cons (pv 0) (pa_cons (pe_op op_sub (pe_un un_neg pe_int) (pv 0)) pa_nil))))
        (pss_cons (ps_set (i := 4) sc_law_numbers.nd rfl (Or.inl rfl) (pv 3))
        (pss_cons (ps_set (i := 5) sc_law_numbers.nd rfl (Or.inl rfl) (pe_lst pa_nil))
        (pss_cons (ps_for PassesOwn.never rfl (pi_range1 rfl T.b_range (pa_cons (pe_callB call_len_seq (by rfl) T.b_len (by decide +kernel) (pa_cons (pv 2) pa_nil)) pa_nil)) (pg_name (i := 6) sc_law_numbers.nd rfl (Or.inl rfl)) (pss_one (ps_if (PW.pt (pw_and (pt_cmpR op_ge (pv 3) (pe_op op_pow pe_int pe_int) (nomark _)) (pw_and1 (pt_cmpR op_gt (pv 4) pe_int (nomark _))))) (pss_cons (ps_expr (pe_bm PySem.F.plainAttrs_list PySem.F.slot_list_append PySem.F.type_list_append mt_append (pv 5) (pa_cons (pe_op op_mod (pv 4) (pe_ix ix_list (pv 2) (pv 6) (fun _ _ => rfl))) pa_nil)))
        (pss_one (ps_set (i := 4) sc_law_numbers.nd rfl (Or.inl rfl) (pe_op op_fdiv (pv 4) (pe_ix ix_list (pv 2) (pv 6) (fun _ _ => rfl)))))) (pss_cons (ps_set (i := 7) sc_law_numbers.nd rfl (Or.inl rfl) (pe_op op_mod (pe_op op_pow (pe_op op_add (pe_op op_add (pe_op op_mod (pv 3) pe_int) (pe_op op_mul pe_int (pv 1))) pe_int) pe_int) pe_int))
        (pss_cons (ps_set (i := 7) sc_law_numbers.nd rfl (Or.inl rfl) (pe_op op_mod (pe_op op_mul (pe_op op_add (pv 7) (pe_op op_mul pe_int (pe_op op_add (pv 6) pe_int))) (pe_op op_add (pv 6) pe_int)) pe_int))
        (pss_cons (ps_set (i := 7) sc_law_numbers.nd rfl (Or.inl rfl) (pe_op op_mod (pe_op op_mul (pe_op op_mod (pe_op op_pow (pv 7) pe_int) pe_int) pe_int) pe_int))
        (pss_one (ps_expr (pe_bm PySem.F.plainAttrs_list PySem.F.slot_list_append PySem.F.type_list_append mt_append (pv 5) (pa_cons (pe_op op_mod (pe_op op_fdiv (pv 7) pe_int) (pe_ix ix_list (pv 2) (pv 6) (fun _ _ => rfl))) pa_nil))))))))))
        (pss_one (ps_ret (pv 5))))))), ?_⟩
    refine ⟨_, rfl, _, rfl, _, rfl, _, _, rfl, rfl, _, _, rfl, ?_⟩
    generalize (if -1 - cell > cell then -1 - cell else cell) = num
    refine ⟨_, rfl, (by show 0 ≤ sizeLine; decide), fun p hp => ?_⟩
    have neA : ∀ {H' : Hp}, Same H H' → SqL K H' a (sz.map V.int) := fun s => s.seq hS
    refine ⟨_, rfl, a, sz.map V.int, rfl, .inl (neA (same_new (Same.refl H) hp)), _, rfl, (by omega), (by rw [List.length_map]; omega), ?_⟩
    rw [List.length_map]
    have en : ((sz.length : Nat) : Int).toNat = sz.length := by omega
    rw [en]
    refine for_range (lo := 0) (n := sz.length) (fun i σ H' => ∃ (left : Int) (ds : List Int) (v6 v7 : Option V), σ = [some (.int cell), some (.int salt), some (.ref a), some (.int num), some (.int left), some (.ref p), v6, v7] ∧
      H' p = some (.lst (ds.map V.int)) ∧ Same H H' ∧ ds.length = i ∧ Below ds sz) ?_ ?_ ?_
    · exact ⟨num, [], none, none, rfl, upd_same, same_new (Same.refl H) hp, rfl, fun i d z h => by simp at h⟩
    · rintro i σ H' hi ⟨left, ds, v6, v7, rfl, hl, sm, rfl, bl⟩
      obtain ⟨z, hz⟩ : ∃ z, sz[ds.length]? = some z := ⟨_, List.getElem?_eq_getElem hi⟩
      obtain ⟨z0, z1⟩ := hpos z (List.mem_of_getElem? hz)
      have e0 : (0 + (ds.length : Int)).toNat = ds.length := by omega
      have at1 : atI (sz.map V.int) (0 + (ds.length : Int)) = some (.int z) := atI_int (by omega) (by rw [e0]; exact get_map hz)
      have hS' := neA sm
      have small : (ds.map V.int).length < sizeLine := by rw [List.length_map]; exact small1000 (by omega)
      have fin : ∀ (y : Int) (w7 : Option V), ∃ (left' : Int) (ds' : List Int) (v6 v7 : Option V), [some (V.int cell), some (.int salt), some (.ref a), some (.int num), some (.int left), some (.ref p), some (.int (0 + (ds.length : Int))), w7] =
          [some (V.int cell), some (.int salt), some (.ref a), some (.int num), some (.int left'), some (.ref p), v6, v7] ∧ (upd H' p (.lst (ds.map V.int ++ [.int (y % z)]))) p = some (.lst (ds'.map V.int)) ∧
          Same H (upd H' p (.lst (ds.map V.int ++ [.int (y % z)]))) ∧ ds'.length = ds.length + 1 ∧ Below ds' sz := fun y w7 =>
        ⟨left, ds ++ [y % z], _, w7, rfl, by rw [upd_same, map_more], same_new sm hp, by simp, below_more bl hz (Int.emod_nonneg _ (by omega)) (Int.emod_lt_of_pos _ z0)⟩
      refine ⟨_, rfl, _, _, rfl, rfl, ⟨by decide, by decide, by decide⟩, _, _, rfl, rfl, _, rfl, ?_⟩
      by_cases h18 : (10 : Int) ^ 18 ≤ num
      · refine ifD h18 ?_
        refine ⟨_, rfl, _, _, rfl, rfl, _, rfl, ?_⟩
        by_cases hl0 : 0 < left
        · refine ifD hl0 ?_
          refine ⟨_, rfl, .inl ⟨rfl, _, SqL.of hl⟩, _, rfl, _, rfl, _, rfl, a, _, _, _, rfl, rfl, hS', at1, _, _, rfl, rfl, z0, p, _, _, rfl, rfl, hl, small, ?_⟩
          refine ⟨_, rfl, _, rfl, _, rfl, a, _, _, _, rfl, rfl, neA (same_new sm hp), at1, _, _, rfl, rfl, ⟨z0, by omega⟩, ?_⟩
          refine ⟨left / z, ds ++ [left % z], some (.int (0 + (ds.length : Int))), v7, rfl, ?_, same_new sm hp, by simp, below_more bl hz (Int.emod_nonneg _ (by omega)) (Int.emod_lt_of_pos _ z0)⟩
          rw [upd_same, map_more]
        · refine ifDn hl0 ?_
          have m1 := Int.emod_nonneg num (show (2147483629 : Int) ≠ 0 by decide)
          have m2 := Int.emod_lt_of_pos num (show (0 : Int) < 2147483629 by decide)
          refine ⟨_, rfl, _, _, rfl, rfl, (by show (0 : Int) < 2147483629; decide), _, rfl, _, _, rfl, rfl, (.inl ⟨by decide, by decide⟩), _, _, rfl, rfl, _, _, rfl, rfl, ?_⟩
          refine ⟨_, _, rfl, rfl, ⟨by decide, by decide, by omega⟩, _, _, rfl, rfl, (by show (0 : Int) < 2147483647; decide), ?_⟩
          refine ⟨_, rfl, _, rfl, _, _, rfl, rfl, _, _, rfl, rfl, (.inl ⟨by decide, by decide⟩), _, _, rfl, rfl, ?_⟩
          refine ⟨_, rfl, _, _, rfl, rfl, _, _, rfl, rfl, (.inr ⟨by omega, by omega⟩), _, _, rfl, rfl, (by show (0 : Int) < 2147483629; decide), ?_⟩
          refine ⟨_, rfl, _, _, rfl, rfl, ⟨by decide, by decide, by omega⟩, _, _, rfl, rfl, (by show (0 : Int) < 2147483647; decide), _, _, rfl, rfl, (.inr ⟨by decide, by decide⟩), _, _, rfl, rfl, (by show (0 : Int) < 2147483629; decide), ?_⟩
          refine ⟨_, rfl, .inl ⟨rfl, _, SqL.of hl⟩, _, rfl, _, _, rfl, rfl, ⟨by decide, by decide⟩, _, rfl, _, rfl, a, _, _, _, rfl, rfl, hS', at1, _, _, rfl, rfl, z0, p, _, _, rfl, rfl, hl, small, ?_⟩
          exact fin _ _
      · refine ifDn h18 ?_
        have m1 := Int.emod_nonneg num (show (2147483629 : Int) ≠ 0 by decide)
        have m2 := Int.emod_lt_of_pos num (show (0 : Int) < 2147483629 by decide)
        refine ⟨_, rfl, _, _, rfl, rfl, (by show (0 : Int) < 2147483629; decide), _, rfl, _, _, rfl, rfl, (.inl ⟨by decide, by decide⟩), _, _, rfl, rfl, _, _, rfl, rfl, ?_⟩
        refine ⟨_, _, rfl, rfl, ⟨by decide, by decide, by omega⟩, _, _, rfl, rfl, (by show (0 : Int) < 2147483647; decide), ?_⟩
        refine ⟨_, rfl, _, rfl, _, _, rfl, rfl, _, _, rfl, rfl, (.inl ⟨by decide, by decide⟩), _, _, rfl, rfl, ?_⟩
        refine ⟨_, rfl, _, _, rfl, rfl, _, _, rfl, rfl, (.inr ⟨by omega, by omega⟩), _, _, rfl, rfl, (by show (0 : Int) < 2147483629; decide), ?_⟩
        refine ⟨_, rfl, _, _, rfl, rfl, ⟨by decide, by decide, by omega⟩, _, _, rfl, rfl, (by show (0 : Int) < 2147483647; decide), _, _, rfl, rfl, (.inr ⟨by decide, by decide⟩), _, _, rfl, rfl, (by show (0 : Int) < 2147483629; decide), ?_⟩
        refine ⟨_, rfl, .inl ⟨rfl, _, SqL.of hl⟩, _, rfl, _, _, rfl, rfl, ⟨by decide, by decide⟩, _, rfl, _, rfl, a, _, _, _, rfl, rfl, hS', at1, _, _, rfl, rfl, z0, p, _, _, rfl, rfl, hl, small, ?_⟩
        exact fin _ _
    · rintro σ H' ⟨left, ds, v6, v7, rfl, hl, sm, hlen, bl⟩
      exact ⟨_, rfl, k H' p ds sm hp hl hlen bl⟩

end K02

namespace K02
open PySem L2 GL

/-- _law_form(base, numerator, exponent) -/
def sp_form : Sp := fun vs H Q _ => ∃ (b n e : Int), vs = [.int b, .int n, .int e] ∧ 2 ≤ b ∧ b ≤ 36 ∧ (n = 0 → NewTup H Q 0 0) ∧
  ∀ (s : Int) (f : Nat), n ≠ 0 → n = s * b ^ f → s % b ≠ 0 → NewTup H Q s (e + f)
def sp_base : Sp := fun vs H Q _ => ∃ (d : Int), vs = [.int d] ∧ ∀ (b : Int) (H' : Hp), Same H H' → 2 ≤ b → b ≤ 36 → Q (.int b) H'
def sp_long : Sp := fun vs H Q _ => vs = [] ∧ Q (.int ((10 : Int) ^ 300)) H
/-- digits below 420, as many as that -/
def Digs (ds : List Int) (n : Nat) : Prop := n ≤ ds.length ∧ ∀ d ∈ ds, 0 ≤ d ∧ d < 420
theorem digs_at {ds : List Int} {n : Nat} (h : Digs ds n) (i : Nat) (hi : i < n) : ∃ d, atI (ds.map V.int) ((i : Nat) : Int) = some (.int d) ∧ 0 ≤ d ∧ d < 420 := by
  have hl : i < ds.length := Nat.lt_of_lt_of_le hi h.1
  have e : ds[i]? = some ds[i] := List.getElem?_eq_getElem hl
  obtain ⟨h0, h1⟩ := h.2 _ (List.getElem_mem hl)
  exact ⟨ds[i], atI_nat (get_map e), h0, h1⟩
def sp_integer (K : PySem.W.Frag) : Sp := fun vs H Q _ => ∃ (a : Addr) (ds : List Int), vs = [.ref a] ∧ SqL K H a (ds.map V.int) ∧ Digs ds 6 ∧ ∀ (H' : Hp) (r : Int), Same H H' → r.natAbs < 2 ^ 300 → Q (.int r) H'
/-- _law_number(base, digits) -/
def sp_lnumber (K : PySem.W.Frag) : Sp := fun vs H Q _ => ∃ (b : Int) (a : Addr) (ds : List Int), vs = [.int b, .ref a] ∧ 2 ≤ b ∧ b ≤ 36 ∧ SqL K H a (ds.map V.int) ∧ Digs ds 7 ∧
  ∀ (H' : Hp) (p : Addr) (n e : Int), Same H H' → H p = none → H' p = some (.tup [.int n, .int e]) → (n = 0 → e = 0) → (n ≠ 0 → n % b ≠ 0) → n.natAbs < 2 ^ 300 → -10 ≤ e → e ≤ 400 → Q (.ref p) H'
theorem div_less {s b : Int} (hb : 2 ≤ b) (h0 : s ≠ 0) (hd : s % b = 0) : (s / b).natAbs < s.natAbs := by
  have e : s = s / b * b := (Int.ediv_mul_cancel (Int.dvd_of_emod_eq_zero hd)).symm
  have h2 : s / b ≠ 0 := fun z => h0 (by rw [e, z, Int.zero_mul])
  have e2 : s.natAbs = (s / b).natAbs * b.natAbs := by
    conv => lhs; rw [e]
    exact Int.natAbs_mul _ _
  have h3 : 0 < (s / b).natAbs := by omega
  have h4 : 2 ≤ b.natAbs := by omega
  rw [e2]
  calc (s / b).natAbs < (s / b).natAbs * 2 := by omega
    _ ≤ (s / b).natAbs * b.natAbs := Nat.mul_le_mul_left _ h4
theorem base_at (d : Int) : ∃ b, atI [V.int 2, .int 10, .int 3, .int 7, .int 16, .int 36, .int 5] (d % 7) = some (.int b) ∧ 2 ≤ b ∧ b ≤ 36 := by
  have h : d % 7 = 0 ∨ d % 7 = 1 ∨ d % 7 = 2 ∨ d % 7 = 3 ∨ d % 7 = 4 ∨ d % 7 = 5 ∨ d % 7 = 6 := by omega
  rcases h with h | h | h | h | h | h | h <;> rw [h]
  · exact ⟨2, rfl, by decide, by decide⟩
  · exact ⟨10, rfl, by decide, by decide⟩
  · exact ⟨3, rfl, by decide, by decide⟩
  · exact ⟨7, rfl, by decide, by decide⟩
  · exact ⟨16, rfl, by decide, by decide⟩
  · exact ⟨36, rfl, by decide, by decide⟩
  · exact ⟨5, rfl, by decide, by decide⟩
theorem size_at (d : Int) : ∃ z, atI [V.int 1, .int 12, .int 420, .int (420 * 420), .int (10 ^ (40 : Int).toNat), .int (10 ^ (60 : Int).toNat)] (d % 6) = some (.int z) ∧ 0 ≤ z ∧ z ≤ 10 ^ 60 := by
  have h : d % 6 = 0 ∨ d % 6 = 1 ∨ d % 6 = 2 ∨ d % 6 = 3 ∨ d % 6 = 4 ∨ d % 6 = 5 := by omega
  rcases h with h | h | h | h | h | h <;> rw [h]
  · exact ⟨1, rfl, by decide, by decide⟩
  · exact ⟨12, rfl, by decide, by decide⟩
  · exact ⟨420, rfl, by decide, by decide⟩
  · exact ⟨420 * 420, rfl, by decide, by decide⟩
  · exact ⟨10 ^ (40 : Int).toNat, rfl, by decide, by decide⟩
  · exact ⟨10 ^ (60 : Int).toNat, rfl, by decide, by decide⟩
theorem integer_small {m z d : Int} (hm0 : 0 ≤ m) (hm : m < 420 * 420 * 420) (hz0 : 0 ≤ z) (hz : z ≤ 10 ^ 60) (hd0 : 0 ≤ d) (hd : d < 420) :
    (m * (z / 7 + 1) / (1 + d) + m % 9).natAbs < 2 ^ 300 := by
  have h1 : 0 ≤ z / 7 := Int.ediv_nonneg hz0 (by decide)
  have h2 : z / 7 + 1 ≤ 10 ^ 60 + 1 := by omega
  have h3 : m * (z / 7 + 1) ≤ 420 * 420 * 420 * (10 ^ 60 + 1) := Int.mul_le_mul (by omega) h2 (by omega) (by decide)
  have h4 : 0 ≤ m * (z / 7 + 1) := Int.mul_nonneg hm0 (by omega)
  have h5 : m * (z / 7 + 1) / (1 + d) ≤ m * (z / 7 + 1) := Int.ediv_le_self _ h4
  have h6 : 0 ≤ m * (z / 7 + 1) / (1 + d) := Int.ediv_nonneg h4 (by omega)
  have h7 : m % 9 < 9 := Int.emod_lt_of_pos _ (by decide)
  have h8 : 0 ≤ m % 9 := Int.emod_nonneg _ (by decide)
  omega

theorem ok_law_power {P : Program} {w : World} {K : PySem.W.Frag} {mg : Str → Option Value} {base : Heap} (T : Tx K mg) : FnOk P w K mg base CX0 1 T.f_law_power T.fd_law_power ["_law_base_here", "_law_count"] sp_power := by
  refine (T.law_power.F.ok sc_law_power (fun vs H Q E h => ?_) (fun cdv A outer s H vs Q E hr h => ?_))
  · obtain ⟨b, c, rfl, hb0, hb, hc, k⟩ := h
    rfl
  · obtain ⟨b, c, rfl, hb0, hb, hc, k⟩ := h
    have hu := hu_of hr
    refine ⟨_, (pss_cons (ps_set (i := 2) sc_law_power.nd rfl (Or.inl rfl) pe_int)
        (pss_cons (ps_for PassesOwn.never rfl (pi_range1 rfl T.b_range (pa_cons (pv 1) pa_nil)) (pg_name (i := 3) sc_law_power.nd rfl (Or.inl rfl)) (pss_one (ps_set (i := 2) sc_law_power.nd rfl (Or.inl rfl) (pe_op op_mulW (pv 2) (pv 0)))))
        (pss_one (ps_ret (pv 2))))), ?_⟩
    refine ⟨_, rfl, (c : Int), rfl, by omega, by omega, ?_⟩
    have ec : (c : Int).toNat = c := by omega
    rw [ec]
    refine for_range (lo := 0) (n := c) (fun i σ H' => H' = H ∧ ∃ v, σ = [some (.int b), some (.int (c : Int)), some (.int (b ^ i)), v]) ?_ ?_ ?_
    · exact ⟨rfl, none, by rw [Int.pow_zero]; rfl⟩
    · rintro i σ H' hi ⟨rfl, v, rfl⟩
      have w1 : CMulW (b ^ i) b := wide_mul (NM.pow_small (by omega) hb _) (b := 7) (by omega) (by omega) (by omega) (by omega)
      refine ⟨_, rfl, _, rfl, _, _, rfl, rfl, w1, rfl, some (.int (0 + (i : Int))), ?_⟩
      rw [Int.pow_succ]
      rfl
    · rintro σ H' ⟨rfl, v, rfl⟩
      exact ⟨_, rfl, k⟩

theorem ok_law_form {P : Program} {w : World} {K : PySem.W.Frag} {mg : Str → Option Value} {base : Heap} (T : Tx K mg) : FnOk P w K mg base CX0 1 T.f_law_form T.fd_law_form ["_law_base_here", "_law_numerator", "_law_exponent"] sp_form := by
  refine (T.law_form.F.ok sc_law_form (fun vs H Q E h => ?_) (fun cdv A outer s H vs Q E hr h => ?_))
  · obtain ⟨b, n, e, rfl, hb0, hb, k0, k⟩ := h
    rfl
  · obtain ⟨b, n, e, rfl, hb0, hb, k0, k⟩ := h
    have hu := hu_of hr
    refine ⟨_, (pss_cons (ps_while PassesOwn.never (PW.pt (pw_and (pt_cmpR op_ne (pv 1) pe_int (nomark _)) (pw_and1 (pt_cmpR op_eq (pe_op op_mod (pv 1) (pv 0)) pe_int (nomark _))))) (pss_one (ps_par (i := 1) (j := 2) rfl sc_law_form.nd rfl rfl (by decide) rfl rfl (pa_cons (pe_op op_fdiv (pv 1) (pv 0)) (pa_cons (pe_op op_add (pv 2) pe_int) pa_nil)) (by rfl))))
        (pss_one (ps_ret (pe_ifExp (pt_cmpR op_ne (pv 1) pe_int (nomark _)) (pe_tup (pa_cons (pv 1) (pa_cons (pv 2) pa_nil))) (pe_tup (pa_cons pe_int (pa_cons pe_int pa_nil))))))), ?_⟩
    refine ⟨fun μ σ H' => ∃ (s : Int) (f : Nat), μ = s.natAbs ∧ σ = [some (.int b), some (.int s), some (.int (e + f))] ∧ n = s * b ^ f ∧ H' = H, ⟨_, n, 0, rfl, ?_, by simp, rfl⟩, ?_⟩
    · have : e + ((0 : Nat) : Int) = e := by omega
      rw [this]
      rfl
    rintro μ σ H' ⟨s, f, rfl, rfl, en, rfl⟩
    have stop : (s = 0 ∨ s % b ≠ 0) → (tRet (tIf (tTest (tOp rNe (tVar 1) (tC (.int 0)))) (tTup (tCons (tVar 1) (tCons (tVar 2) tNil))) (tTup (tCons (tC (.int 0)) (tCons (tC (.int 0)) tNil)))) { nx := fun _ H' => Q .non H', rt := Q } [some (.int b), some (.int s), some (.int (e + f))] H') := by
      intro hs
      refine ⟨_, rfl, rfl, _, rfl, ?_⟩
      by_cases h0 : s = 0
      · refine ifNn (vI h0) ?_
        refine ⟨(by show 2 ≤ sizeLine; decide), fun p hp => ?_⟩
        exact k0 (by rw [en, h0, Int.zero_mul]) _ p (same_new (Same.refl _) hp) hp upd_same
      · refine ifN (vIn h0) ?_
        refine ⟨_, rfl, _, rfl, (by show 2 ≤ sizeLine; decide), fun p hp => ?_⟩
        have hne : n ≠ 0 := by
          rw [en]
          exact Int.mul_ne_zero h0 (by have := NM.pow_pos hb0 f; omega)
        exact k s f hne en (hs.resolve_left h0) _ p (same_new (Same.refl _) hp) hp upd_same
    refine ⟨_, rfl, rfl, _, rfl, ?_⟩
    by_cases h0 : s = 0
    · refine ifNn (vI h0) ?_
      exact stop (.inl h0)
    · refine ifN (vIn h0) ?_
      refine ⟨_, rfl, _, rfl, _, _, rfl, rfl, (by omega), rfl, _, rfl, ?_⟩
      by_cases hd : s % b = 0
      · refine ifD (vI hd) ?_
        refine ⟨fun σ' H2 => ∃ μ', μ' < s.natAbs ∧ ∃ (s : Int) (f : Nat), μ' = s.natAbs ∧ σ' = [some (.int b), some (.int s), some (.int (e + f))] ∧ n = s * b ^ f ∧ H2 = H', fun _ _ h => h, ?_⟩
        refine ⟨_, rfl, _, rfl, _, _, rfl, rfl, ⟨by omega, by omega⟩, _, rfl, _, _, rfl, rfl, _, _, rfl, ?_⟩
        refine ⟨_, div_less hb0 h0 hd, s / b, f + 1, rfl, ?_, ?_, rfl⟩
        · have : e + ((f + 1 : Nat) : Int) = e + f + 1 := by omega
          rw [this]
          rfl
        · rw [Int.pow_succ, Int.mul_comm (b ^ f), ← Int.mul_assoc, Int.ediv_mul_cancel (Int.dvd_of_emod_eq_zero hd)]
          exact en
      · refine ifDn (vIn hd) ?_
        exact stop (.inr hd)

theorem ok_law_base {P : Program} {w : World} {K : PySem.W.Frag} {mg : Str → Option Value} {base : Heap} (T : Tx K mg) : FnOk P w K mg base CX0 1 T.f_law_base T.fd_law_base ["_law_digit"] sp_base := by
  refine (T.law_base.F.ok sc_law_base (fun vs H Q E h => ?_) (fun cdv A outer s H vs Q E hr h => ?_))
  · obtain ⟨d, rfl, k⟩ := h
    rfl
  · obtain ⟨d, rfl, k⟩ := h
    have hu := hu_of hr
    refine ⟨_, (pss_one (ps_ret (pe_ix ix_list (pe_lst (pa_cons pe_int (pa_cons pe_int (pa_cons pe_int (pa_cons pe_int (pa_cons pe_int (pa_cons pe_int (pa_cons pe_int pa_nil)))))))) (pe_op op_mod (pv 0) pe_int) (fun _ _ => rfl)))), ?_⟩
    obtain ⟨b, at1, b0, b1⟩ := base_at d
    refine ⟨(by show 7 ≤ sizeLine; decide), fun p hp => ?_⟩
    exact ⟨_, rfl, _, _, rfl, rfl, (by show (0 : Int) < 7; decide), p, _, _, _, rfl, rfl, SqL.of upd_same, at1, k b _ (same_new (Same.refl _) hp) b0 b1⟩

theorem ok_law_long {P : Program} {w : World} {K : PySem.W.Frag} {mg : Str → Option Value} {base : Heap} (T : Tx K mg) : FnOk P w K mg base CX0 1 T.f_law_long T.fd_law_long [] sp_long := by
  refine (T.law_long.F.ok sc_law_long (fun vs H Q E h => ?_) (fun cdv A outer s H vs Q E hr h => ?_))
  · obtain ⟨rfl, k⟩ := h
    rfl
  · obtain ⟨rfl, k⟩ := h
    have hu := hu_of hr
    refine ⟨_, (pss_one (ps_ret (pe_op op_powW (pe_op op_pow pe_int pe_int) pe_int))), ?_⟩
    refine ⟨_, _, rfl, rfl, ⟨by decide, by decide, by decide⟩, _, _, rfl, rfl, ⟨by decide, by decide +kernel⟩, ?_⟩
    exact k

theorem ok_law_integer {P : Program} {w : World} {K : PySem.W.Frag} {mg : Str → Option Value} {base : Heap} (T : Tx K mg) : FnOk P w K mg base CX0 1 T.f_law_integer T.fd_law_integer ["_law_digits"] (sp_integer K) := by
  refine (T.law_integer.F.ok sc_law_integer (fun vs H Q E h => ?_) (fun cdv A outer s H vs Q E hr h => ?_))
  · obtain ⟨a, ds, rfl, hS, hD, k⟩ := h
    rfl
  · obtain ⟨a, ds, rfl, hS, hD, k⟩ := h
    have hu := hu_of hr
    refine ⟨_, (pss_cons (ps_set (i := 1) sc_law_integer.nd rfl (Or.inl rfl) (pe_ix ix_list (pe_lst (pa_cons pe_int (pa_cons pe_int (pa_cons pe_int (pa_cons (pe_op op_mul pe_int pe_int) (pa_cons (pe_op op_pow pe_int pe_int) (pa_cons (pe_op op_pow pe_int pe_int) pa_nil))))))) (pe_op op_mod (pe_ix ix_list (pv 0) pe_int (fun _ _ => rfl)) pe_int) (fun _ _ => rfl)))
        (pss_cons (ps_set (i := 2) sc_law_integer.nd rfl (Or.inl rfl) (pe_op op_add (pe_op op_mul (pe_op op_add (pe_op op_mul (pe_ix ix_list (pv 0) pe_int (fun _ _ => rfl)) pe_int) (pe_ix ix_list (pv 0) pe_int (fun _ _ => rfl))) pe_int) (pe_ix ix_list (pv 0) pe_int (fun _ _ => rfl))))
        (pss_cons (ps_set (i := 3) sc_law_integer.nd rfl (Or.inl rfl) (pe_op op_add (pe_op op_fdiv (pe_op op_mul (pv 2) (pe_op op_add (pe_op op_fdiv (pv 1) pe_int) pe_int)) (pe_op op_add pe_int (pe_ix ix_list (pv 0) pe_int (fun _ _ => rfl)))) (pe_op op_mod (pv 2) pe_int)))
        (pss_one (ps_ret (pe_ifExp (pt_cmpR op_gt (pe_op op_mod (pe_ix ix_list (pv 0) pe_int (fun _ _ => rfl)) pe_int) pe_int (nomark _)) (pe_ifExp (pt_cmpR op_eq (pe_op op_mod (pe_ix ix_list (pv 0) pe_int (fun _ _ => rfl)) pe_int) pe_int (nomark _)) (pe_op op_sub pe_int (pv 3)) (pv 3)) pe_int)))))), ?_⟩
    obtain ⟨d0, at0, l0, u0⟩ := digs_at hD 0 (by decide)
    obtain ⟨d1, at1, l1, u1⟩ := digs_at hD 1 (by decide)
    obtain ⟨d2, at2, l2, u2⟩ := digs_at hD 2 (by decide)
    obtain ⟨d3, at3, l3, u3⟩ := digs_at hD 3 (by decide)
    obtain ⟨d4, at4, l4, u4⟩ := digs_at hD 4 (by decide)
    obtain ⟨d5, at5, l5, u5⟩ := digs_at hD 5 (by decide)
    obtain ⟨z, atz, z0, z1⟩ := size_at d0
    refine ⟨_, _, rfl, rfl, .inl ⟨by decide, by decide⟩, _, _, rfl, rfl, ⟨by decide, by decide, by decide⟩, _, _, rfl, rfl, ⟨by decide, by decide, by decide⟩, (by show 6 ≤ sizeLine; decide), fun p hp => ?_⟩
    have sm := same_new (o := .lst [V.int 1, .int 12, .int 420, .int (420 * 420), .int (10 ^ (40 : Int).toNat), .int (10 ^ (60 : Int).toNat)]) (Same.refl H) hp
    have hS' := sm.seq hS
    refine ⟨_, rfl, a, _, _, _, rfl, rfl, hS', at0, _, _, rfl, rfl, (by show (0 : Int) < 6; decide), p, _, _, _, rfl, rfl, SqL.of upd_same, atz, ?_⟩
    refine ⟨_, rfl, a, _, _, _, rfl, rfl, hS', at1, _, _, rfl, rfl, .inr ⟨by decide, by decide⟩, _, rfl, a, _, _, _, rfl, rfl, hS', at2, _, _, rfl, rfl, _, _, rfl, rfl, .inr ⟨by decide, by decide⟩, _, rfl, a, _, _, _, rfl, rfl, hS', at3, _, _, rfl, rfl, ?_⟩
    have m0 : 0 ≤ (d1 * 420 + d2) * 420 + d3 := by omega
    have m1 : (d1 * 420 + d2) * 420 + d3 < 420 * 420 * 420 := by omega
    have fin := integer_small m0 m1 z0 z1 l4 u4
    refine ⟨_, rfl, _, rfl, _, _, rfl, rfl, ⟨by decide, by decide⟩, _, _, rfl, rfl, _, _, rfl, rfl, .inl ⟨by omega, by omega⟩, _, rfl, a, _, _, _, rfl, rfl, hS', at4, _, _, rfl, rfl, _, _, rfl, rfl, ⟨by omega, by omega⟩, _, rfl, _, _, rfl, rfl, (by show (0 : Int) < 9; decide), _, _, rfl, rfl, ?_⟩
    refine ⟨_, rfl, a, _, _, _, rfl, rfl, hS', at0, _, _, rfl, rfl, (by show (0 : Int) < 13; decide), _, _, rfl, rfl, _, rfl, ?_⟩
    by_cases c0 : 0 < d0 % 13
    · refine ifD c0 ?_
      refine ⟨_, rfl, a, _, _, _, rfl, rfl, hS', at5, _, _, rfl, rfl, (by show (0 : Int) < 2; decide), rfl, _, rfl, ?_⟩
      by_cases c5 : d5 % 2 = 1
      · refine ifD (vI c5) ?_
        exact ⟨_, rfl, _, _, rfl, rfl, k _ _ sm (by omega)⟩
      · refine ifDn (vIn c5) ?_
        exact ⟨_, rfl, k _ _ sm fin⟩
    · refine ifDn c0 ?_
      exact k _ _ sm (by decide)

theorem ok_law_number {P : Program} {w : World} {K : PySem.W.Frag} {mg : Str → Option Value} {base : Heap} (T : Tx K mg) : FnOk P w K mg base CX0 2 T.f_law_number T.fd_law_number ["_law_base_here", "_law_digits"] (sp_lnumber K) := by
  have G_law_integer := ok_law_integer (P := P) (w := w) (base := base) T
  have G_law_form := ok_law_form (P := P) (w := w) (base := base) T
  refine (T.law_number.F.ok sc_law_number (fun vs H Q E h => ?_) (fun cdv A outer s H vs Q E hr h => ?_))
  · obtain ⟨b, a, ds, rfl, hb0, hb, hS, hD, k⟩ := h
    rfl
  · obtain ⟨b, a, ds, rfl, hb0, hb, hS, hD, k⟩ := h
    have hu := hu_of hr
    refine ⟨_, (pss_one (ps_ret (pe_call G_law_form (hr.mono (by decide)) rfl T.law_form.g T.law_form.F.kp T.law_form.b .nil pass0 (pa_cons (pv 0) (pa_cons (pe_call G_law_integer (hr.mono (by decide)) rfl T.law_integer.g T.law_integer.F.kp T.law_integer.b .nil pass0 (pa_cons (pv 1) pa_nil)) (pa_cons (pe_op op_sub (pe_op op_mod (pe_ix ix_list (pv 1) pe_int (fun _ _ => rfl)) pe_int) pe_int) pa_nil)))))), ?_⟩
    obtain ⟨d6, at6, l6, u6⟩ := digs_at hD 6 (by decide)
    refine ⟨_, rfl, _, rfl, a, ds, rfl, hS, ⟨by have := hD.1; omega, hD.2⟩, fun H1 r s1 hr => ?_⟩
    refine ⟨_, rfl, a, _, _, _, rfl, rfl, s1.seq hS, at6, _, _, rfl, rfl, (by show (0 : Int) < 9; decide), _, _, rfl, rfl, b, r, _, rfl, hb0, hb, fun h0 => ?_, fun s f h0 en hs => ?_⟩
    · intro H2 p s2 hp h2
      exact k H2 p 0 0 (s1.trans s2) (s1.free hp) h2 (fun _ => rfl) (fun z => absurd rfl z) (by decide) (by decide) (by decide)
    · intro H2 p s2 hp h2
      have hs0 : s ≠ 0 := fun z => hs (by rw [z]; exact Int.zero_emod _)
      have hf : f < 300 := NM.exp_lt hb0 h0 (by rw [en]; exact Int.mul_emod_left _ _) hr
      have le : s.natAbs ≤ r.natAbs := by
        rw [en, Int.natAbs_mul]
        exact Nat.le_mul_of_pos_right _ (by have := NM.pow_pos hb0 f; omega)
      exact k H2 p s _ (s1.trans s2) (s1.free hp) h2 (fun z => absurd z hs0) (fun _ => hs) (by omega) (by omega) (by omega)

end K02

namespace K02
open PySem L2 GL

/-- _law_is_number(base, value) -/
def sp_lisnum (K : PySem.W.Frag) : Sp := fun vs H Q _ => ∃ (b : Int) (v : V) (d : PyData), vs = [.int b, v] ∧ 2 ≤ b ∧ b ≤ 36 ∧ ShD K H v d ∧ ∀ H', Same H H' → Q (.bl (isNum b d)) H'
theorem fewB_long (n : Int) : fewB n = decide ((if n < 0 then -n else n) < (10 : Int) ^ 300) := rfl
theorem kd_some {K : PySem.W.Frag} {H : Hp} {v : V} {o : Option Int} (h : Kd K H v o) : o.isSome = true → ∃ i, v = .int i ∧ o = some i := by
  cases h <;> intro z <;> first | exact ⟨_, rfl, rfl⟩ | cases z
theorem kd_same {K : PySem.W.Frag} {H H' : Hp} (e : Same H H') {v : V} {o : Option Int} (h : Kd K H v o) : Kd K H' v o := by
  cases h with
  | non => exact .non
  | bl b => exact .bl b
  | int i => exact .int i
  | str x => exact .str x
  | lst h => exact .lst (e.seq h)
  | tup h => exact .tup (sqT_same e h)
  | dic h => exact .dic (e _ _ h)

theorem ok_law_is_number {P : Program} {w : World} {K : PySem.W.Frag} {mg : Str → Option Value} {base : Heap} (T : Tx K mg) : FnOk P w K mg base CX0 2 T.f_law_is_number T.fd_law_is_number ["_law_base_here", "_law_value"] (sp_lisnum K) := by
  have G_law_is_integer := ok_law_is_integer (P := P) (w := w) (base := base) T
  have G_law_long := ok_law_long (P := P) (w := w) (base := base) T
  refine (T.law_is_number.F.ok sc_law_is_number (fun vs H Q E h => ?_) (fun cdv A outer s H vs Q E hr h => ?_))
  · obtain ⟨b, v, d, rfl, hb0, hb, hd, k⟩ := h
    rfl
  · obtain ⟨b, v, d, rfl, hb0, hb, hd, k⟩ := h
    have hu := hu_of hr
    refine ⟨_, (pss_cons (ps_if (PW.pt (pw_or (pt_not (pt_val (pe_callB call_isi (by rfl) T.b_isinstance (by decide +kernel) (pa_cons (pv 1) (pa_cons (pe_bltn (v := .ty "tuple") (by rfl) T.b_tuple (by decide +kernel) rfl) pa_nil))))) (pw_or (pt_cmpR op_ne (pe_callB call_len_seq (by rfl) T.b_len (by decide +kernel) (pa_cons (pv 1) pa_nil)) pe_int (nomark _)) (pw_or1 (pt_cmpR (op_neNil hu) (pe_lc (own := [("_law_one", 2)]) (g := gName 2) rfl sc_law_is_number.nd (pi_tup (pv 1)) (blkOk_by (own := [("_law_one", 2)]) (N := ["_law_base_here", "_law_value", "_law_one"]) (sc := defScope s_law_is_number) (by decide +kernel)) (fun _ _ _ _ _ => pg_name (i := 2) sc_law_is_number.nd rfl (Or.inl rfl)) (fun _ _ _ _ _ => (pts_one (pt_not (pt_val (pe_call G_law_is_integer (hr.mono (by decide)) rfl T.law_is_integer.g T.law_is_integer.F.kp T.law_is_integer.b .nil pass0 (pa_cons (pv 2) pa_nil)))))) (fun _ _ _ _ _ => (pv 2))) (pe_lst pa_nil) (nomark _)))))) (pss_one (ps_ret pe_bl)) pss_nil)
        (pss_cons (ps_if (pt_cmpR op_eq (pe_ix ix_tup (pv 1) pe_int (fun _ _ => rfl)) pe_int (nomark _)) (pss_one (ps_ret (pe_cmpR op_eq (pe_ix ix_tup (pv 1) pe_int (fun _ _ => rfl)) pe_int (nomark _)))) pss_nil)
        (pss_one (ps_ret (pe_and (pe_cmpR op_lt (pe_callB call_abs (by rfl) T.b_abs (by decide +kernel) (pa_cons (pe_ix ix_tup (pv 1) pe_int (fun _ _ => rfl)) pa_nil)) (pe_call0 G_law_long (hr.mono (by decide)) rfl T.law_long.g T.law_long.F.kp T.law_long.b .nil pass0) (nomark _)) (pe_and (pe_chain op_le op_le (pe_un un_neg pe_int) (pe_ix ix_tup (pv 1) pe_int (fun _ _ => rfl)) pe_int) (pe_one (pe_cmpR op_ne (pe_op op_mod (pe_ix ix_tup (pv 1) pe_int (fun _ _ => rfl)) (pv 0)) pe_int (nomark _))))))))), ?_⟩
    rcases tuple_ask hd with ⟨a, xs, ds, rfl, hs, ha, rfl, ty⟩ | ⟨t, ty, e1, no⟩
    · refine ⟨_, rfl, _, _, _, _, true, rfl, .ty _, ty, kit_ty (by decide +kernel), _, rfl, ?_⟩
      refine iteF ?_
      refine ⟨_, rfl, a, xs, rfl, .inr hs, rfl, _, rfl, ?_⟩
      by_cases h2 : ds.length = 2
      · obtain ⟨x, y, d1, d2, rfl, rfl, g1, g2⟩ := kdAll_two ha h2
        refine iteF ?_
        rw [isNum_two] at k
        generalize intD d1 = o1 at k g1
        generalize intD d2 = o2 at k g2
        have hx : ∀ (i : Nat) (z : V), [x, y][i]? = some z → ∃ o, Kd K H z o ∧ o.isSome = [o1.isSome, o2.isSome].getD i false := by
          intro i z hz
          match i, hz with
          | 0, hz => cases hz; exact ⟨o1, g1, rfl⟩
          | 1, hz => cases hz; exact ⟨o2, g2, rfl⟩
        refine ⟨_, rfl, a, rfl, ⟨_, hs⟩, fun D hD => lc_tup (xs := [x, y]) (fun i H' => ∃ acc, H' D = some (.lst acc) ∧ acc.length ≤ i ∧ acc.isEmpty = ([o1.isSome, o2.isSome].take i).all id ∧ Same H H') ?_ ?_ ?_ ?_⟩
        · exact ⟨[], upd_same, Nat.le_refl _, rfl, same_new (Same.refl H) hD⟩
        · rintro i H' _ ⟨acc, _, _, _, sm⟩
          exact sqT_same sm hs
        · rintro i z H' hi ⟨acc, hacc, hle, he, sm⟩
          obtain ⟨o, ko, eo⟩ := hx i z hi
          refine ⟨rfl, _, rfl, z, o, rfl, kd_same sm ko, _, rfl, ?_⟩
          have hi2 : i < 2 := (List.getElem?_eq_some_iff.mp hi).1
          have step : ([o1.isSome, o2.isSome].take (i + 1)).all id = (([o1.isSome, o2.isSome].take i).all id && o.isSome) := by
            rw [eo]
            match i, hi2 with
            | 0, _ => simp
            | 1, _ => simp
          cases ho : o.isSome with
          | true =>
            refine iteF ?_
            exact ⟨acc, hacc, by omega, by rw [step, he, ho, Bool.and_true], sm⟩
          | false =>
            refine iteT ?_
            refine ⟨_, rfl, acc, hacc, small1000 (by omega), acc ++ [z], upd_same, by simp; omega, by rw [step, ho, Bool.and_false]; simp, ?_⟩
            exact same_new sm hD
        · rintro H' ⟨acc, hacc, hle, he, sm⟩
          have he2 : acc.isEmpty = (o1.isSome && o2.isSome) := by rw [he]; simp
          refine ⟨(by show 0 ≤ sizeLine; decide), fun p hp => ?_⟩
          have nD : D ≠ p := ne_of_none hacc hp
          refine ⟨D, p, acc, rfl, rfl, SqL.of (by rw [upd_ne nD]; exact hacc), SqL.of upd_same, _, rfl, ?_⟩
          have sm2 := same_new (o := .lst []) sm (sm.free hp)
          rw [he2]
          cases o1 with
          | none =>
            refine iteT ?_
            exact k _ sm2
          | some n =>
            cases o2 with
            | none =>
              refine iteT ?_
              exact k _ sm2
            | some e =>
              refine iteF ?_
              have e1 := g1.int_of
              have e2 := g2.int_of
              subst e1 e2
              have hs2 := sqT_same sm2 hs
              have ix0 : ∀ n e : Int, atI [V.int n, V.int e] 0 = some (V.int n) := fun _ _ => rfl
              have ix1 : ∀ n e : Int, atI [V.int n, V.int e] 1 = some (V.int e) := fun _ _ => rfl
              refine ⟨_, rfl, a, _, _, _, rfl, rfl, hs2, ix0 n e, rfl, _, rfl, ?_⟩
              by_cases h0 : n = 0
              · refine ifD (vI h0) ?_
                refine ⟨_, rfl, a, _, _, _, rfl, rfl, hs2, ix1 n e, rfl, ?_⟩
                have q := k _ sm2
                simp only [h0, if_true] at q
                by_cases he0 : e = 0
                · simpa [he0] using q
                · have hn : ¬ (V.int e = V.int 0) := vIn he0
                  simpa [he0, hn] using q
              · refine ifDn (vIn h0) ?_
                have q := k _ sm2
                simp only [h0, if_false] at q
                refine ⟨_, rfl, a, _, _, _, rfl, rfl, hs2, ix0 n e, n, rfl, rfl, ?_⟩
                refine ⟨_, _, rfl, rfl, _, rfl, ?_⟩
                by_cases hf : (if n < 0 then -n else n) < (10 : Int) ^ 300
                · refine ifD hf ?_
                  have hfb : fewB n = true := decide_eq_true hf
                  rw [hfb] at q
                  refine ⟨_, rfl, _, rfl, a, _, _, _, rfl, rfl, hs2, ix1 n e, _, _, rfl, rfl, _, rfl, ?_⟩
                  by_cases hl : (-1000 : Int) ≤ e
                  · refine ifD hl ?_
                    refine ⟨_, _, rfl, rfl, _, rfl, ?_⟩
                    by_cases hu2 : e ≤ 1000
                    · refine ifD hu2 ?_
                      refine ⟨_, rfl, a, _, _, _, rfl, rfl, hs2, ix0 n e, _, rfl, _, _, rfl, rfl, (by omega), rfl, ?_⟩
                      simp only [hl, hu2, and_self, decide_true, Bool.true_and, Bool.and_true] at q
                      by_cases hm : n % b = 0
                      · simpa [hm] using q
                      · have hn : ¬ (V.int (n % b) = V.int 0) := vIn hm
                        simpa [hm, hn] using q
                    · refine ifDn hu2 ?_
                      simpa [hl, hu2] using q
                  · refine ifDn hl ?_
                    refine ⟨_, rfl, iteF ?_⟩
                    simpa [hl] using q
                · refine ifDn hf ?_
                  have hfb : fewB n = false := decide_eq_false hf
                  rw [hfb] at q
                  simpa using q
      · have hl : ¬ (V.int (xs.length : Int) = V.int 2) := fun z => h2 (by have q := V.int.inj z; have := kdAll_len ha; omega)
        refine ifN hl ?_
        rw [isNum_len h2] at k
        exact k _ (Same.refl H)
    · refine ⟨_, rfl, _, _, _, _, false, rfl, .ty _, ty, kit_ty e1, _, rfl, ?_⟩
      refine iteT ?_
      refine iteT ?_
      rw [isNum_other no] at k
      exact k _ (Same.refl H)

end K02

namespace K02
open PySem L2 GL

/-- an odd value: data or a dict, shown -/
def Odd (K : PySem.W.Frag) (H : Hp) (v : V) (d : PyData) : Prop := (Dp K H v d ∨ Mix1 H v d) ∧ Sw d 1 10
theorem odd_same {K : PySem.W.Frag} {H H' : Hp} (e : Same H H') {v : V} {d : PyData} (h : Odd K H v d) : Odd K H' v d := ⟨h.1.imp (dp_same e) (mix_same e), h.2⟩
theorem odd_at {K : PySem.W.Frag} {H : Hp} {p1 p2 p3 : Addr} (h1 : H p1 = some (.tup [])) (h2 : H p2 = some (.lst [])) (h3 : H p3 = some (.dK [])) (d : Int) :
    ∃ v e, atI [V.non, .bl true, .bl false, .str "5", .str "", .ref p1, .ref p2, .ref p3, .int (10 ^ (20 : Int).toNat), .int (-1)] (d % 10) = some v ∧ Odd K H v e := by
  have h : d % 10 = 0 ∨ d % 10 = 1 ∨ d % 10 = 2 ∨ d % 10 = 3 ∨ d % 10 = 4 ∨ d % 10 = 5 ∨ d % 10 = 6 ∨ d % 10 = 7 ∨ d % 10 = 8 ∨ d % 10 = 9 := by omega
  rcases h with h | h | h | h | h | h | h | h | h | h <;> rw [h]
  · exact ⟨_, _, rfl, .inl .non, Sw.none.up (by decide) (by decide)⟩
  · exact ⟨_, _, rfl, .inl (.bl _), (Sw.bool _).up (by decide) (by decide)⟩
  · exact ⟨_, _, rfl, .inl (.bl _), (Sw.bool _).up (by decide) (by decide)⟩
  · exact ⟨_, _, rfl, .inl (.str _), (Sw.str (by decide)).up (by decide) (by decide)⟩
  · exact ⟨_, _, rfl, .inl (.str _), (Sw.str (by decide)).up (by decide) (by decide)⟩
  · exact ⟨_, _, rfl, .inl (.tup (SqT.of h1) .nil), (Sw.tuple .nil).up (by decide) (by decide)⟩
  · exact ⟨_, _, rfl, .inl (.lst (SqL.of h2) .nil), (Sw.list .nil).up (by decide) (by decide)⟩
  · exact ⟨_, _, rfl, .inr (.dic h3 rfl), Sw.nodict.up (by decide) (by decide)⟩
  · exact ⟨_, _, rfl, .inl (.int _), (Sw.int (by decide)).up (by decide) (by decide)⟩
  · exact ⟨_, _, rfl, .inl (.int _), (Sw.int (by decide)).up (by decide) (by decide)⟩
section
variable {K : PySem.W.Frag} {H : Hp} {p : Addr}
theorem good_odd {v : V} {d : PyData} (h : Odd K H v d) : Good K H v := ⟨d, 1, 10, h.1.elim .data .mix, h.2, by decide, by decide⟩
theorem good_t1 {i : Int} (h : H p = some (.tup [.int i])) (hi : i.natAbs < 2 ^ 1900) : Good K H (.ref p) :=
  ⟨_, _, _, .data (.tup (SqT.of h) (.cons (.int i) .nil)), .tuple (.cons (.int hi) .nil), by decide, by decide⟩
theorem good_t2 {i j : Int} (h : H p = some (.tup [.int i, .int j])) (hi : i.natAbs < 2 ^ 1900) (hj : j.natAbs < 2 ^ 1900) : Good K H (.ref p) :=
  ⟨_, _, _, .data (.tup (SqT.of h) (.cons (.int i) (.cons (.int j) .nil))), .tuple (.cons (.int hi) (.cons (.int hj) .nil)), by decide, by decide⟩
theorem good_l2 {i j : Int} (h : H p = some (.lst [.int i, .int j])) (hi : i.natAbs < 2 ^ 1900) (hj : j.natAbs < 2 ^ 1900) : Good K H (.ref p) :=
  ⟨_, _, _, .data (.lst (SqL.of h) (.cons (.int i) (.cons (.int j) .nil))), .list (.cons (.int hi) (.cons (.int hj) .nil)), by decide, by decide⟩
theorem good_t3 {i j k : Int} (h : H p = some (.tup [.int i, .int j, .int k])) (hi : i.natAbs < 2 ^ 1900) (hj : j.natAbs < 2 ^ 1900) (hk : k.natAbs < 2 ^ 1900) : Good K H (.ref p) :=
  ⟨_, _, _, .data (.tup (SqT.of h) (.cons (.int i) (.cons (.int j) (.cons (.int k) .nil)))), .tuple (.cons (.int hi) (.cons (.int hj) (.cons (.int hk) .nil))), by decide, by decide⟩
theorem good_tb {i : Int} {c : Bool} (h : H p = some (.tup [.int i, .bl c])) (hi : i.natAbs < 2 ^ 1900) : Good K H (.ref p) :=
  ⟨_, _, _, .data (.tup (SqT.of h) (.cons (.int i) (.cons (.bl c) .nil))), .tuple (.cons (.int hi) (.cons (.bool c) .nil)), by decide, by decide⟩
theorem good_bt {i : Int} {c : Bool} (h : H p = some (.tup [.bl c, .int i])) (hi : i.natAbs < 2 ^ 1900) : Good K H (.ref p) :=
  ⟨_, _, _, .data (.tup (SqT.of h) (.cons (.bl c) (.cons (.int i) .nil))), .tuple (.cons (.bool c) (.cons (.int hi) .nil)), by decide, by decide⟩
theorem good_to {i : Int} {v : V} {d : PyData} (h : H p = some (.tup [.int i, v])) (hi : i.natAbs < 2 ^ 1900) (o : Odd K H v d) : Good K H (.ref p) := by
  refine ⟨.tuple [.int i, d], _, _, ?_, .tuple (.cons (.int hi) (.cons o.2 .nil)), by decide, by decide⟩
  rcases o.1 with q | q
  · exact .data (.tup (SqT.of h) (.cons (.int i) (.cons q .nil)))
  · exact .tup (SqT.of h) (.cons (.flat (v := .int i) rfl) (.cons q .nil))
theorem good_ot {i : Int} {v : V} {d : PyData} (h : H p = some (.tup [v, .int i])) (hi : i.natAbs < 2 ^ 1900) (o : Odd K H v d) : Good K H (.ref p) := by
  refine ⟨.tuple [d, .int i], _, _, ?_, .tuple (.cons o.2 (.cons (.int hi) .nil)), by decide, by decide⟩
  rcases o.1 with q | q
  · exact .data (.tup (SqT.of h) (.cons q (.cons (.int i) .nil)))
  · exact .tup (SqT.of h) (.cons q (.cons (.flat (v := .int i) rfl) .nil))
theorem good_tt {a : Addr} {i j : Int} (h : H p = some (.tup [.ref a])) (ha : SqT K H a [.int i, .int j]) (hi : i.natAbs < 2 ^ 1900) (hj : j.natAbs < 2 ^ 1900) : Good K H (.ref p) :=
  ⟨_, _, _, .data (.tup (SqT.of h) (.cons (.tup ha (.cons (.int i) (.cons (.int j) .nil))) .nil)), .tuple (.cons (.tuple (.cons (.int hi) (.cons (.int hj) .nil))) .nil), by decide, by decide⟩
end
/-- _law_altered(base, number, digits) -/
def sp_altered (K : PySem.W.Frag) : Sp := fun vs H Q _ => ∃ (b n e : Int) (a c : Addr) (ds : List Int), vs = [.int b, .ref a, .ref c] ∧ 2 ≤ b ∧ b ≤ 36 ∧ SqT K H a [.int n, .int e] ∧ n.natAbs < 2 ^ 300 ∧
  -10 ≤ e ∧ e ≤ 400 ∧ SqL K H c (ds.map V.int) ∧ Digs ds 2 ∧
  ∀ (H' : Hp) (p : Addr) (ws : List V), Same H H' → H p = none → H' p = some (.lst ws) → ws.length ≤ 50 → (∀ v ∈ ws, Good K H' v) → Q (.ref p) H'


theorem long_small {d : Int} (h0 : 0 ≤ d) (h1 : d < 420) : ((10 : Int) ^ 300 - 1 - d).natAbs < 2 ^ 1900 := by
  have e : (10 : Int) ^ 300 < 2 ^ 1000 := by decide +kernel
  have e0 : (1000 : Int) < 10 ^ 300 := by decide +kernel
  have e2 : (2 : Nat) ^ 1000 ≤ 2 ^ 1900 := Nat.pow_le_pow_right (by decide) (by decide)
  refine Nat.lt_of_lt_of_le ?_ e2
  have e3 : ((2 ^ 1000 : Nat) : Int) = (2 : Int) ^ 1000 := by simp
  generalize (10 : Int) ^ 300 = L at e e0 ⊢
  generalize (2 : Int) ^ 1000 = M at e e3
  generalize (2 : Nat) ^ 1000 = M' at e3 ⊢
  omega
theorem long_small2 {d : Int} (h0 : 0 ≤ d) (h1 : d < 420) : ((10 : Int) ^ 300 + 1 + d).natAbs < 2 ^ 1900 := by
  have e : (10 : Int) ^ 300 + 1000 < 2 ^ 1000 := by decide +kernel
  have e0 : (0 : Int) < 10 ^ 300 := by decide +kernel
  have e2 : (2 : Nat) ^ 1000 ≤ 2 ^ 1900 := Nat.pow_le_pow_right (by decide) (by decide)
  refine Nat.lt_of_lt_of_le ?_ e2
  have e3 : ((2 ^ 1000 : Nat) : Int) = (2 : Int) ^ 1000 := by simp
  generalize (10 : Int) ^ 300 = L at e e0 ⊢
  generalize (2 : Int) ^ 1000 = M at e e3
  generalize (2 : Nat) ^ 1000 = M' at e3 ⊢
  omega

theorem ok_law_altered {P : Program} {w : World} {K : PySem.W.Frag} {mg : Str → Option Value} {base : Heap} (T : Tx K mg) : FnOk P w K mg base CX0 2 T.f_law_altered T.fd_law_altered ["_law_base_here", "_law_number_here", "_law_digits"] (sp_altered K) := by
  have G_law_long := ok_law_long (P := P) (w := w) (base := base) T
  refine (T.law_altered.F.ok sc_law_altered (fun vs H Q E h => ?_) (fun cdv A outer s H vs Q E hr h => ?_))
  · obtain ⟨b, n, e, a, c, ds, rfl, hb0, hb, hN, hn, he0, he1, hC, hD, k⟩ := h
    rfl
  · obtain ⟨b, n, e, a, c, ds, rfl, hb0, hb, hN, hn, he0, he1, hC, hD, k⟩ := h
    have hu := hu_of hr
    refine ⟨_, (pss_cons (ps_asg (pv 1) (pg_tup rfl (pgs_cons (pg_name (i := 3) sc_law_altered.nd rfl (Or.inl rfl)) (pgs_cons (pg_name (i := 4) sc_law_altered.nd rfl (Or.inl rfl)) pgs_nil))))
        (pss_cons (ps_set (i := 5) sc_law_altered.nd rfl (Or.inl rfl) (pe_ix ix_list (pe_lst (pa_cons pe_non (pa_cons pe_bl (pa_cons pe_bl (pa_cons pe_str (pa_cons pe_str (pa_cons (pe_tup pa_nil) (pa_cons (pe_lst pa_nil) (pa_cons pe_dnewK (pa_cons (pe_op op_pow pe_int pe_int) (pa_cons (pe_un un_neg pe_int) pa_nil))))))))))) (pe_op op_mod (pe_ix ix_list (pv 2) pe_int (fun _ _ => rfl)) pe_int) (fun _ _ => rfl)))
        (pss_cons (ps_set (i := 6) sc_law_altered.nd rfl (Or.inl rfl) (pe_lst (pa_cons (pe_callTy call_list_of (by rfl) T.b_list (by decide +kernel) (pa_cons (pv 1) pa_nil)) (pa_cons (pe_tup (pa_cons (pv 3) pa_nil)) (pa_cons (pe_op op_catT (pv 1) (pe_tup (pa_cons pe_int pa_nil))) (pa_cons (pe_tup (pa_cons (pv 5) (pa_cons (pv 4) pa_nil))) (pa_cons (pe_tup (pa_cons (pv 3) (pa_cons (pv 5) pa_nil))) (pa_cons (pv 5) (pa_cons (pe_tup (pa_cons (pv 1) pa_nil)) pa_nil)))))))))
        (pss_cons (ps_set (i := 6) sc_law_altered.nd rfl (Or.inl rfl) (pe_op op_cat (pv 6) (pe_lst (pa_cons (pe_tup (pa_cons (pe_op op_mul (pv 3) (pv 0)) (pa_cons (pv 4) pa_nil))) (pa_cons (pe_tup (pa_cons (pv 3) (pa_cons pe_int pa_nil))) (pa_cons (pe_tup (pa_cons (pv 3) (pa_cons pe_int pa_nil))) (pa_cons (pe_tup (pa_cons (pv 3) (pa_cons (pe_un un_neg pe_int) pa_nil))) pa_nil)))))))
        (pss_cons (ps_set (i := 6) sc_law_altered.nd rfl (Or.inl rfl) (pe_op op_cat (pv 6) (pe_lst (pa_cons (pe_tup (pa_cons (pv 3) (pa_cons (pe_un un_neg pe_int) pa_nil))) (pa_cons (pe_tup (pa_cons pe_int (pa_cons (pv 4) pa_nil))) (pa_cons (pe_tup (pa_cons pe_int (pa_cons pe_int pa_nil))) (pa_cons (pe_tup (pa_cons pe_int (pa_cons pe_bl pa_nil))) (pa_cons (pe_tup (pa_cons pe_int (pa_cons pe_int pa_nil))) (pa_cons (pe_tup (pa_cons pe_bl (pa_cons pe_int pa_nil))) (pa_cons (pe_tup (pa_cons pe_int (pa_cons pe_bl pa_nil))) (pa_cons (pe_tup (pa_cons (pe_un un_neg pe_int) (pa_cons pe_int pa_nil))) pa_nil)))))))))))
        (pss_cons (ps_set (i := 7) sc_law_altered.nd rfl (Or.inl rfl) (pe_op op_sub (pe_op op_sub (pe_call0 G_law_long (hr.mono (by decide)) rfl T.law_long.g T.law_long.F.kp T.law_long.b .nil pass0) pe_int) (pe_ix ix_list (pv 2) pe_int (fun _ _ => rfl))))
        (pss_one (ps_ret (pe_op op_cat (pv 6) (pe_lst (pa_cons (pe_tup (pa_cons (pv 7) (pa_cons pe_int pa_nil))) (pa_cons (pe_tup (pa_cons (pe_op op_sub pe_int (pv 7)) (pa_cons pe_int pa_nil))) (pa_cons (pe_tup (pa_cons (pe_op op_add (pe_op op_add (pe_call0 G_law_long (hr.mono (by decide)) rfl T.law_long.g T.law_long.F.kp T.law_long.b .nil pass0) pe_int) (pe_ix ix_list (pv 2) pe_int (fun _ _ => rfl))) (pa_cons pe_int pa_nil))) (pa_cons (pe_tup (pa_cons (pv 0) (pa_cons pe_int pa_nil))) (pa_cons (pe_tup (pa_cons (pe_op op_sub pe_int (pv 0)) (pa_cons (pe_un un_neg pe_int) pa_nil))) pa_nil))))))))))))))), ?_⟩
    obtain ⟨d0, at0, l0, u0⟩ := digs_at hD 0 (by decide)
    obtain ⟨d1, at1, l1, u1⟩ := digs_at hD 1 (by decide)
    refine ⟨_, rfl, a, _, rfl, hN, rfl, _, _, rfl, _, _, rfl, rfl, ?_⟩
    refine ⟨(by show 0 ≤ sizeLine; decide), fun p1 hp1 => ?_⟩
    have st1 := same_new (o := .tup []) (Same.refl _) hp1
    have s1 := st1
    refine ⟨(by show 0 ≤ sizeLine; decide), fun p2 hp2 => ?_⟩
    have st2 := same_new (o := .lst []) (Same.refl _) hp2
    have s2 := s1.trans st2
    intro p3 hp3
    have st3 := same_new (o := .dK []) (Same.refl _) hp3
    have s3 := s2.trans st3
    refine ⟨_, _, rfl, rfl, ⟨by decide, by decide, by decide⟩, _, rfl, (by show 10 ≤ sizeLine; decide), fun p4 hp4 => ?_⟩
    have st4 := same_new (o := .lst [V.non, .bl true, .bl false, .str "5", .str "", .ref p1, .ref p2, .ref p3, .int (10 ^ (20 : Int).toNat), .int (-1)]) (Same.refl _) hp4
    have s4 := s3.trans st4
    obtain ⟨odd, dd, atO, ho⟩ := odd_at (K := K) ((st2.trans (st3.trans st4)) p1 _ upd_same) ((st3.trans st4) p2 _ upd_same) (st4 p3 _ upd_same) d0
    refine ⟨_, rfl, c, _, _, _, rfl, rfl, s4.seq hC, at0, _, _, rfl, rfl, (by show (0 : Int) < 10; decide), p4, _, _, _, rfl, rfl, SqL.of upd_same, atO, ?_⟩
    refine ⟨_, rfl, a, _, rfl, .inr (sqT_same s4 hN), fun p5 hp5 => ?_⟩
    have st5 := same_new (o := .lst [.int n, .int e]) (Same.refl _) hp5
    have s5 := s4.trans st5
    refine ⟨_, rfl, (by show 1 ≤ sizeLine; decide), fun p6 hp6 => ?_⟩
    have st6 := same_new (o := .tup [.int n]) (Same.refl _) hp6
    have s6 := s5.trans st6
    refine ⟨_, rfl, (by show 1 ≤ sizeLine; decide), fun p7 hp7 => ?_⟩
    have st7 := same_new (o := .tup [.int 0]) (Same.refl _) hp7
    have s7 := s6.trans st7
    refine ⟨a, p7, _, _, rfl, rfl, sqT_same s7 hN, SqT.of upd_same, (fun z => nomatch z), (by show 3 ≤ sizeLine; decide), (fun z => nomatch z), fun _ p8 hp8 => ?_⟩
    have st8 := same_new (o := .tup [.int n, .int e, .int 0]) (Same.refl _) hp8
    have s8 := s7.trans st8
    refine ⟨_, rfl, _, rfl, (by show 2 ≤ sizeLine; decide), fun p9 hp9 => ?_⟩
    have st9 := same_new (o := .tup [odd, .int e]) (Same.refl _) hp9
    have s9 := s8.trans st9
    refine ⟨_, rfl, _, rfl, (by show 2 ≤ sizeLine; decide), fun p10 hp10 => ?_⟩
    have st10 := same_new (o := .tup [.int n, odd]) (Same.refl _) hp10
    have s10 := s9.trans st10
    refine ⟨_, rfl, _, rfl, (by show 1 ≤ sizeLine; decide), fun p11 hp11 => ?_⟩
    have st11 := same_new (o := .tup [.ref a]) (Same.refl _) hp11
    have s11 := s10.trans st11
    refine ⟨(by show 7 ≤ sizeLine; decide), fun p12 hp12 => ?_⟩
    have st12 := same_new (o := .lst [.ref p5, .ref p6, .ref p8, .ref p9, .ref p10, odd, .ref p11]) (Same.refl _) hp12
    have s12 := s11.trans st12
    refine ⟨_, rfl, ?_⟩
    refine ⟨_, rfl, _, rfl, _, _, rfl, rfl, .inr ⟨by omega, by omega⟩, _, rfl, (by show 2 ≤ sizeLine; decide), fun p13 hp13 => ?_⟩
    have st13 := same_new (o := .tup [.int (n * b), .int e]) (Same.refl _) hp13
    have s13 := s12.trans st13
    refine ⟨_, rfl, (by show 2 ≤ sizeLine; decide), fun p14 hp14 => ?_⟩
    have st14 := same_new (o := .tup [.int n, .int 1000]) (Same.refl _) hp14
    have s14 := s13.trans st14
    refine ⟨_, rfl, (by show 2 ≤ sizeLine; decide), fun p15 hp15 => ?_⟩
    have st15 := same_new (o := .tup [.int n, .int 1001]) (Same.refl _) hp15
    have s15 := s14.trans st15
    refine ⟨_, rfl, _, rfl, (by show 2 ≤ sizeLine; decide), fun p16 hp16 => ?_⟩
    have st16 := same_new (o := .tup [.int n, .int (-1000)]) (Same.refl _) hp16
    have s16 := s15.trans st16
    refine ⟨(by show 4 ≤ sizeLine; decide), fun p17 hp17 => ?_⟩
    have st17 := same_new (o := .lst [.ref p13, .ref p14, .ref p15, .ref p16]) (Same.refl _) hp17
    have s17 := s16.trans st17
    refine ⟨p12, p17, _, _, rfl, rfl, (st13.trans (st14.trans (st15.trans (st16.trans st17)))) p12 _ upd_same, upd_same, (by show 11 ≤ sizeLine; decide), fun p18 hp18 => ?_⟩
    have st18 := same_new (o := .lst ([V.ref p5, .ref p6, .ref p8, .ref p9, .ref p10, odd, .ref p11] ++ [V.ref p13, .ref p14, .ref p15, .ref p16])) (Same.refl _) hp18
    have s18 := s17.trans st18
    refine ⟨_, rfl, ?_⟩
    refine ⟨_, rfl, _, rfl, (by show 2 ≤ sizeLine; decide), fun p19 hp19 => ?_⟩
    have st19 := same_new (o := .tup [.int n, .int (-1001)]) (Same.refl _) hp19
    have s19 := s18.trans st19
    refine ⟨_, rfl, (by show 2 ≤ sizeLine; decide), fun p20 hp20 => ?_⟩
    have st20 := same_new (o := .tup [.int 0, .int e]) (Same.refl _) hp20
    have s20 := s19.trans st20
    refine ⟨(by show 2 ≤ sizeLine; decide), fun p21 hp21 => ?_⟩
    have st21 := same_new (o := .tup [.int 0, .int 1]) (Same.refl _) hp21
    have s21 := s20.trans st21
    refine ⟨(by show 2 ≤ sizeLine; decide), fun p22 hp22 => ?_⟩
    have st22 := same_new (o := .tup [.int 0, .bl false]) (Same.refl _) hp22
    have s22 := s21.trans st22
    refine ⟨(by show 2 ≤ sizeLine; decide), fun p23 hp23 => ?_⟩
    have st23 := same_new (o := .tup [.int 1, .int 0]) (Same.refl _) hp23
    have s23 := s22.trans st23
    refine ⟨(by show 2 ≤ sizeLine; decide), fun p24 hp24 => ?_⟩
    have st24 := same_new (o := .tup [.bl true, .int 0]) (Same.refl _) hp24
    have s24 := s23.trans st24
    refine ⟨(by show 2 ≤ sizeLine; decide), fun p25 hp25 => ?_⟩
    have st25 := same_new (o := .tup [.int 1, .bl false]) (Same.refl _) hp25
    have s25 := s24.trans st25
    refine ⟨_, rfl, (by show 2 ≤ sizeLine; decide), fun p26 hp26 => ?_⟩
    have st26 := same_new (o := .tup [.int (-1), .int 3]) (Same.refl _) hp26
    have s26 := s25.trans st26
    refine ⟨(by show 8 ≤ sizeLine; decide), fun p27 hp27 => ?_⟩
    have st27 := same_new (o := .lst [V.ref p19, .ref p20, .ref p21, .ref p22, .ref p23, .ref p24, .ref p25, .ref p26]) (Same.refl _) hp27
    have s27 := s26.trans st27
    refine ⟨p18, p27, _, _, rfl, rfl, (st19.trans (st20.trans (st21.trans (st22.trans (st23.trans (st24.trans (st25.trans (st26.trans st27)))))))) p18 _ upd_same, upd_same, (by show 19 ≤ sizeLine; decide), fun p28 hp28 => ?_⟩
    have st28 := same_new (o := .lst ([V.ref p5, .ref p6, .ref p8, .ref p9, .ref p10, odd, .ref p11] ++ [V.ref p13, .ref p14, .ref p15, .ref p16] ++ [V.ref p19, .ref p20, .ref p21, .ref p22, .ref p23, .ref p24, .ref p25, .ref p26])) (Same.refl _) hp28
    have s28 := s27.trans st28
    refine ⟨rfl, _, _, rfl, rfl, _, rfl, c, _, _, _, rfl, rfl, s28.seq hC, at1, _, _, rfl, rfl, ?_⟩
    refine ⟨_, rfl, ?_⟩
    refine ⟨_, rfl, (by show 2 ≤ sizeLine; decide), fun p29 hp29 => ?_⟩
    have st29 := same_new (o := .tup [.int ((10 : Int) ^ 300 - 1 - d1), .int 0]) (Same.refl _) hp29
    have s29 := s28.trans st29
    refine ⟨_, rfl, _, _, rfl, rfl, (by show 2 ≤ sizeLine; decide), fun p30 hp30 => ?_⟩
    have st30 := same_new (o := .tup [.int (0 - ((10 : Int) ^ 300 - 1 - d1)), .int 5]) (Same.refl _) hp30
    have s30 := s29.trans st30
    refine ⟨rfl, _, _, rfl, rfl, _, rfl, c, _, _, _, rfl, rfl, s30.seq hC, at1, _, _, rfl, rfl, (by show 2 ≤ sizeLine; decide), fun p31 hp31 => ?_⟩
    have st31 := same_new (o := .tup [.int ((10 : Int) ^ 300 + 1 + d1), .int 0]) (Same.refl _) hp31
    have s31 := s30.trans st31
    refine ⟨_, rfl, (by show 2 ≤ sizeLine; decide), fun p32 hp32 => ?_⟩
    have st32 := same_new (o := .tup [.int b, .int 0]) (Same.refl _) hp32
    have s32 := s31.trans st32
    refine ⟨_, rfl, _, _, rfl, rfl, _, rfl, (by show 2 ≤ sizeLine; decide), fun p33 hp33 => ?_⟩
    have st33 := same_new (o := .tup [.int (0 - b), .int (-2)]) (Same.refl _) hp33
    have s33 := s32.trans st33
    refine ⟨(by show 5 ≤ sizeLine; decide), fun p34 hp34 => ?_⟩
    have st34 := same_new (o := .lst [V.ref p29, .ref p30, .ref p31, .ref p32, .ref p33]) (Same.refl _) hp34
    have s34 := s33.trans st34
    refine ⟨p28, p34, _, _, rfl, rfl, (st29.trans (st30.trans (st31.trans (st32.trans (st33.trans st34))))) p28 _ upd_same, upd_same, (by show 24 ≤ sizeLine; decide), fun p35 hp35 => ?_⟩
    have st35 := same_new (o := .lst ([V.ref p5, .ref p6, .ref p8, .ref p9, .ref p10, odd, .ref p11] ++ [V.ref p13, .ref p14, .ref p15, .ref p16] ++ [V.ref p19, .ref p20, .ref p21, .ref p22, .ref p23, .ref p24, .ref p25, .ref p26] ++ [V.ref p29, .ref p30, .ref p31, .ref p32, .ref p33])) (Same.refl _) hp35
    have s35 := s34.trans st35
    have u34 := st35
    have u33 := st34.trans u34
    have u32 := st33.trans u33
    have u31 := st32.trans u32
    have u30 := st31.trans u31
    have u29 := st30.trans u30
    have u28 := st29.trans u29
    have u27 := st28.trans u28
    have u26 := st27.trans u27
    have u25 := st26.trans u26
    have u24 := st25.trans u25
    have u23 := st24.trans u24
    have u22 := st23.trans u23
    have u21 := st22.trans u22
    have u20 := st21.trans u21
    have u19 := st20.trans u20
    have u18 := st19.trans u19
    have u17 := st18.trans u18
    have u16 := st17.trans u17
    have u15 := st16.trans u16
    have u14 := st15.trans u15
    have u13 := st14.trans u14
    have u12 := st13.trans u13
    have u11 := st12.trans u12
    have u10 := st11.trans u11
    have u9 := st10.trans u10
    have u8 := st9.trans u9
    have u7 := st8.trans u8
    have u6 := st7.trans u7
    have u5 := st6.trans u6
    have u4 := st5.trans u5
    have n1 : n.natAbs < 2 ^ 1900 := Nat.lt_of_lt_of_le hn (Nat.pow_le_pow_right (by decide) (by decide))
    have e1 : e.natAbs < 2 ^ 1900 := Nat.lt_of_lt_of_le (show e.natAbs < 2 ^ 9 by omega) (Nat.pow_le_pow_right (by decide) (by decide))
    have t1 : ((10 : Int) ^ 300 - 1 - d1).natAbs < 2 ^ 1900 := long_small (by omega) (by omega)
    have t2 : (0 - ((10 : Int) ^ 300 - 1 - d1)).natAbs < 2 ^ 1900 := by rw [Int.zero_sub, Int.natAbs_neg]; exact t1
    have t3 : ((10 : Int) ^ 300 + 1 + d1).natAbs < 2 ^ 1900 := long_small2 (by omega) (by omega)
    have nb : (n * b).natAbs < 2 ^ 1900 := by rw [Int.natAbs_mul]; exact Nat.lt_of_lt_of_le (Nat.mul_lt_mul'' hn (show b.natAbs < 2 ^ 6 by omega)) (by rw [← Nat.pow_add]; exact Nat.pow_le_pow_right (by decide) (by decide))
    have b1 : b.natAbs < 2 ^ 1900 := Nat.lt_of_lt_of_le (show b.natAbs < 2 ^ 6 by omega) (Nat.pow_le_pow_right (by decide) (by decide))
    have b2 : (0 - b).natAbs < 2 ^ 1900 := Nat.lt_of_lt_of_le (show (0 - b).natAbs < 2 ^ 6 by omega) (Nat.pow_le_pow_right (by decide) (by decide))
    refine k _ p35 [V.ref p5, V.ref p6, V.ref p8, V.ref p9, V.ref p10, odd, V.ref p11, V.ref p13, V.ref p14, V.ref p15, V.ref p16, V.ref p19, V.ref p20, V.ref p21, V.ref p22, V.ref p23, V.ref p24, V.ref p25, V.ref p26, V.ref p29, V.ref p30, V.ref p31, V.ref p32, V.ref p33] s35 (s34.free hp35) upd_same (by show 24 ≤ 50; decide) ?_
    intro v hv
    simp only [List.mem_cons, List.not_mem_nil, or_false] at hv
    rcases hv with rfl | rfl | rfl | rfl | rfl | rfl | rfl | rfl | rfl | rfl | rfl | rfl | rfl | rfl | rfl | rfl | rfl | rfl | rfl | rfl | rfl | rfl | rfl | rfl
    · exact good_l2 (u5 p5 _ upd_same) n1 e1
    · exact good_t1 (u6 p6 _ upd_same) n1
    · exact good_t3 (u8 p8 _ upd_same) n1 e1 (by decide)
    · exact good_ot (u9 p9 _ upd_same) e1 (odd_same u4 ho)
    · exact good_to (u10 p10 _ upd_same) n1 (odd_same u4 ho)
    · exact good_odd (odd_same u4 ho)
    · exact good_tt (u11 p11 _ upd_same) (sqT_same s35 hN) n1 e1
    · exact good_t2 (u13 p13 _ upd_same) nb e1
    · exact good_t2 (u14 p14 _ upd_same) n1 (by decide)
    · exact good_t2 (u15 p15 _ upd_same) n1 (by decide)
    · exact good_t2 (u16 p16 _ upd_same) n1 (by decide)
    · exact good_t2 (u19 p19 _ upd_same) n1 (by decide)
    · exact good_t2 (u20 p20 _ upd_same) (by decide) e1
    · exact good_t2 (u21 p21 _ upd_same) (by decide) (by decide)
    · exact good_tb (u22 p22 _ upd_same) (by decide)
    · exact good_t2 (u23 p23 _ upd_same) (by decide) (by decide)
    · exact good_bt (u24 p24 _ upd_same) (by decide)
    · exact good_tb (u25 p25 _ upd_same) (by decide)
    · exact good_t2 (u26 p26 _ upd_same) (by decide) (by decide)
    · exact good_t2 (u29 p29 _ upd_same) t1 (by decide)
    · exact good_t2 (u30 p30 _ upd_same) t2 (by decide)
    · exact good_t2 (u31 p31 _ upd_same) t3 (by decide)
    · exact good_t2 (u32 p32 _ upd_same) b1 (by decide)
    · exact good_t2 (u33 p33 _ upd_same) b2 (by decide)

end K02

namespace K02
open PySem L2 GL

def limD (k : Int) : PyData := .list [.str "limit", .int k, .bool true, .bool false]
/-- what is handed back for a numerator and an exponent in their form -/
def resD (s e : Int) : PyData := if fewB s = true then (if -1000 ≤ e ∧ e ≤ 1000 then .tuple [.int s, .int e] else limD 1000) else limD 300
theorem few_zero : fewB 0 = true := by decide +kernel
theorem resD_zero : resD 0 0 = .tuple [.int 0, .int 0] := by
  unfold resD
  rw [few_zero]
  simp
/-- _law_want, _law_got (base, numerator, exponent) -/
def sp_out (K : PySem.W.Frag) : Sp := fun vs H Q _ => ∃ (b n e : Int), vs = [.int b, .int n, .int e] ∧ 2 ≤ b ∧ b ≤ 36 ∧ n.natAbs < 2 ^ 7000 ∧
  (n = 0 → ∀ (H' : Hp) (v : V), Same H H' → Dp K H' v (resD 0 0) → Q v H') ∧
  ∀ (s : Int) (f : Nat), n ≠ 0 → n = s * b ^ f → s % b ≠ 0 → ∀ (H' : Hp) (v : V), Same H H' → Dp K H' v (resD s (e + f)) → Q v H'
theorem lim_dp {K : PySem.W.Frag} {H : Hp} {p : Addr} {k : Int} (h : H p = some (.lst [.str "limit", .int k, .bl true, .bl false])) : Dp K H (.ref p) (limD k) :=
  .lst (SqL.of h) (.cons (.str _) (.cons (.int _) (.cons (.bl _) (.cons (.bl _) .nil))))
theorem two_dp {K : PySem.W.Frag} {H : Hp} {p : Addr} {i j : Int} (h : H p = some (.tup [.int i, .int j])) : Dp K H (.ref p) (.tuple [.int i, .int j]) :=
  .tup (SqT.of h) (.cons (.int _) (.cons (.int _) .nil))

theorem ok_law_want {P : Program} {w : World} {K : PySem.W.Frag} {mg : Str → Option Value} {base : Heap} (T : Tx K mg) : FnOk P w K mg base CX0 2 T.f_law_want T.fd_law_want ["_law_base_here", "_law_numerator", "_law_exponent"] (sp_out K) := by
  have G_law_form := ok_law_form (P := P) (w := w) (base := base) T
  have G_law_long := ok_law_long (P := P) (w := w) (base := base) T
  refine (T.law_want.F.ok sc_law_want (fun vs H Q E h => ?_) (fun cdv A outer s H vs Q E hr h => ?_))
  · obtain ⟨b, n, e, rfl, hb0, hb, hn, k0, k⟩ := h
    rfl
  · obtain ⟨b, n, e, rfl, hb0, hb, hn, k0, k⟩ := h
    have hu := hu_of hr
    refine ⟨_, (pss_cons (ps_set (i := 3) sc_law_want.nd rfl (Or.inl rfl) (pe_call G_law_form (hr.mono (by decide)) rfl T.law_form.g T.law_form.F.kp T.law_form.b .nil pass0 (pa_cons (pv 0) (pa_cons (pv 1) (pa_cons (pv 2) pa_nil)))))
        (pss_cons (ps_if (pt_cmpR op_ge (pe_callB call_abs (by rfl) T.b_abs (by decide +kernel) (pa_cons (pe_ix ix_tup (pv 3) pe_int (fun _ _ => rfl)) pa_nil)) (pe_call0 G_law_long (hr.mono (by decide)) rfl T.law_long.g T.law_long.F.kp T.law_long.b .nil pass0) (nomark _)) (pss_one (ps_ret (pe_lst (pa_cons pe_str (pa_cons pe_int (pa_cons pe_bl (pa_cons pe_bl pa_nil))))))) pss_nil)
        (pss_one (ps_ret (pe_ifExp (pt_chain op_le op_le (pe_un un_neg pe_int) (pe_ix ix_tup (pv 3) pe_int (fun _ _ => rfl)) pe_int) (pv 3) (pe_lst (pa_cons pe_str (pa_cons pe_int (pa_cons pe_bl (pa_cons pe_bl pa_nil)))))))))), ?_⟩
    refine ⟨_, rfl, _, rfl, _, rfl, b, n, e, rfl, hb0, hb, fun h0 => ?_, fun s f h0 en no => ?_⟩
    · have k := k0 h0
      intro H1 p s1 hp h1
      have ix0 : atI [V.int (0 : Int), V.int (0 : Int)] 0 = some (V.int (0 : Int)) := rfl
      have ix1 : atI [V.int (0 : Int), V.int (0 : Int)] 1 = some (V.int (0 : Int)) := rfl
      refine ⟨_, rfl, p, _, _, _, rfl, rfl, SqT.of h1, ix0, _, rfl, rfl, _, _, rfl, rfl, _, rfl, ?_⟩
      unfold resD at k
      by_cases hf : (if (0 : Int) < 0 then -(0 : Int) else (0 : Int)) < (10 : Int) ^ 300
      · refine ifDn (Int.not_le.mpr hf) ?_
        have hfb : fewB (0 : Int) = true := decide_eq_true hf
        rw [if_pos hfb] at k
        refine ⟨_, rfl, _, rfl, p, _, _, _, rfl, rfl, SqT.of h1, ix1, _, _, rfl, rfl, _, rfl, ?_⟩
        by_cases hl : (-1000 : Int) ≤ (0 : Int)
        · refine ifD hl ?_
          refine ⟨_, _, rfl, rfl, _, rfl, ?_⟩
          by_cases hu2 : (0 : Int) ≤ 1000
          · refine ifD hu2 ?_
            rw [if_pos ⟨hl, hu2⟩] at k
            exact ⟨_, rfl, k _ _ s1 (two_dp h1)⟩
          · refine ifDn hu2 ?_
            rw [if_neg (fun z => hu2 z.2)] at k
            refine ⟨(by show 4 ≤ sizeLine; decide), fun q hq => ?_⟩
            exact k _ _ (same_new s1 (s1.free hq)) (lim_dp upd_same)
        · refine ifDn hl ?_
          refine ⟨_, rfl, iteF ?_⟩
          rw [if_neg (fun z => hl z.1)] at k
          refine ⟨(by show 4 ≤ sizeLine; decide), fun q hq => ?_⟩
          exact k _ _ (same_new s1 (s1.free hq)) (lim_dp upd_same)
      · refine ifD (Int.not_lt.mp hf) ?_
        have hfb : ¬ fewB (0 : Int) = true := fun z => hf (of_decide_eq_true z)
        rw [if_neg hfb] at k
        refine ⟨(by show 4 ≤ sizeLine; decide), fun q hq => ?_⟩
        exact k _ _ (same_new s1 (s1.free hq)) (lim_dp upd_same)
    · have k := k s f h0 en no
      intro H1 p s1 hp h1
      have ix0 : atI [V.int s, V.int (e + (f : Int))] 0 = some (V.int s) := rfl
      have ix1 : atI [V.int s, V.int (e + (f : Int))] 1 = some (V.int (e + (f : Int))) := rfl
      refine ⟨_, rfl, p, _, _, _, rfl, rfl, SqT.of h1, ix0, _, rfl, rfl, _, _, rfl, rfl, _, rfl, ?_⟩
      unfold resD at k
      by_cases hf : (if s < 0 then -s else s) < (10 : Int) ^ 300
      · refine ifDn (Int.not_le.mpr hf) ?_
        have hfb : fewB s = true := decide_eq_true hf
        rw [if_pos hfb] at k
        refine ⟨_, rfl, _, rfl, p, _, _, _, rfl, rfl, SqT.of h1, ix1, _, _, rfl, rfl, _, rfl, ?_⟩
        by_cases hl : (-1000 : Int) ≤ (e + (f : Int))
        · refine ifD hl ?_
          refine ⟨_, _, rfl, rfl, _, rfl, ?_⟩
          by_cases hu2 : (e + (f : Int)) ≤ 1000
          · refine ifD hu2 ?_
            rw [if_pos ⟨hl, hu2⟩] at k
            exact ⟨_, rfl, k _ _ s1 (two_dp h1)⟩
          · refine ifDn hu2 ?_
            rw [if_neg (fun z => hu2 z.2)] at k
            refine ⟨(by show 4 ≤ sizeLine; decide), fun q hq => ?_⟩
            exact k _ _ (same_new s1 (s1.free hq)) (lim_dp upd_same)
        · refine ifDn hl ?_
          refine ⟨_, rfl, iteF ?_⟩
          rw [if_neg (fun z => hl z.1)] at k
          refine ⟨(by show 4 ≤ sizeLine; decide), fun q hq => ?_⟩
          exact k _ _ (same_new s1 (s1.free hq)) (lim_dp upd_same)
      · refine ifD (Int.not_lt.mp hf) ?_
        have hfb : ¬ fewB s = true := fun z => hf (of_decide_eq_true z)
        rw [if_neg hfb] at k
        refine ⟨(by show 4 ≤ sizeLine; decide), fun q hq => ?_⟩
        exact k _ _ (same_new s1 (s1.free hq)) (lim_dp upd_same)

theorem ok_law_got {P : Program} {w : World} {K : PySem.W.Frag} {mg : Str → Option Value} {base : Heap} (T : Tx K mg) : FnOk P w K mg base CX0 5 T.f_law_got T.fd_law_got ["_law_base_here", "_law_numerator", "_law_exponent"] (sp_out K) := by
  have G_make_number := ok_make_number (P := P) (w := w) (base := base) T
  refine (T.law_got.F.ok sc_law_got (fun vs H Q E h => ?_) (fun cdv A outer s H vs Q E hr h => ?_))
  · obtain ⟨b, n, e, rfl, hb0, hb, hn, k0, k⟩ := h
    rfl
  · obtain ⟨b, n, e, rfl, hb0, hb, hn, k0, k⟩ := h
    have hu := hu_of hr
    refine ⟨_, (pss_cons (ps_set (i := 3) sc_law_got.nd rfl (Or.inl rfl) pe_non)
        (pss_cons (ps_try_as (i := 4) (tb := fun W => tAsg (tCallS (sp_make T.C_LimitExceeded) (WE W) (tCons (tVar 0) (tCons (tVar 1) (tCons (tVar 2) tNil)))) (gName 3)) (Wout := fun _ _ _ _ => False) rfl rfl sc_law_got.nd rfl rfl ⟨rfl, by decide, Or.inl T.LimitExceeded.gC⟩ takes0
            (fun W pn xe tk _ => pss_one (ps_set (i := 3) sc_law_got.nd rfl (Or.inl rfl) (by exact (pe_callS G_make_number (hr.mono (by decide)) rfl T.make_number.g T.make_number.F.kp T.make_number.b (fun σ => passAt tk σ) (by exact (pa_cons (pv 0) (pa_cons (pv 1) (pa_cons (pv 2) pa_nil))))))))
            (fun a oe cls d pn hz hf => pss_one (ps_set (i := 3) sc_law_got.nd rfl (Or.inl rfl) (pe_lst (pa_cons pe_str (pa_cons (pe_errFld T.LimitExceeded hz hf (pv 4))
              (pa_cons (pe_callB (call_errIs T.LimitExceeded hz hf) (by rfl) T.b_isinstance (by decide +kernel) (pa_cons (pv 4) (pa_cons (pe_bltn (v := .ty "OverflowError") (by rfl) T.b_OverflowError (by decide +kernel) rfl) pa_nil)))
              (pa_cons (pe_callB (call_errIs T.LimitExceeded hz hf) (by rfl) T.b_isinstance (by decide +kernel) (pa_cons (pv 4) (pa_cons (pe_glob (v := .ref T.C_HeadError) rfl T.h_HeadError rfl) pa_nil))) pa_nil))))))))
        (pss_one (ps_ret (pv 3))))), ?_⟩
    refine ⟨_, rfl, _, rfl, _, rfl, b, n, e, rfl, hb0, hb, hn, fun h0 => ?_, fun s f h0 en no => ?_⟩
    · have k := k0 h0
      intro H1 p s1 hp h1
      rw [resD_zero] at k
      exact ⟨_, rfl, k _ _ s1 (two_dp h1)⟩
    · have k := k s f h0 en no
      unfold resD at k
      refine ⟨fun hf => ?_, fun hf hp => ?_, fun hf hp => ?_⟩
      · rw [if_neg (by rw [hf]; decide)] at k
        intro H1 d s1 hd h1
        refine ⟨true, T.LimitExceeded.te, fun _ a0 _ => ?_, fun q => Bool.noConfusion q⟩
        refine ⟨_, rfl, rfl, rfl, d, _, rfl, h1, ?_⟩
        refine ⟨_, rfl, _, _, true, d, _, _, rfl, rfl, rfl, h1, .ty _, T.x_isOverflow, ?_⟩
        refine ⟨_, rfl, _, _, false, d, _, _, rfl, rfl, rfl, h1, .own _, T.x_isHead, ?_⟩
        refine ⟨(by show 4 ≤ sizeLine; decide), fun q hq => ?_⟩
        exact ⟨_, rfl, k _ _ (same_new s1 (s1.free hq)) (lim_dp upd_same)⟩
      · rw [if_pos hf, if_neg hp] at k
        intro H1 d s1 hd h1
        refine ⟨true, T.LimitExceeded.te, fun _ a0 _ => ?_, fun q => Bool.noConfusion q⟩
        refine ⟨_, rfl, rfl, rfl, d, _, rfl, h1, ?_⟩
        refine ⟨_, rfl, _, _, true, d, _, _, rfl, rfl, rfl, h1, .ty _, T.x_isOverflow, ?_⟩
        refine ⟨_, rfl, _, _, false, d, _, _, rfl, rfl, rfl, h1, .own _, T.x_isHead, ?_⟩
        refine ⟨(by show 4 ≤ sizeLine; decide), fun q hq => ?_⟩
        exact ⟨_, rfl, k _ _ (same_new s1 (s1.free hq)) (lim_dp upd_same)⟩
      · rw [if_pos hf, if_pos hp] at k
        intro H1 p s1 hp h1
        exact ⟨_, rfl, k _ _ s1 (two_dp h1)⟩

end K02

namespace K02
open PySem L2 GL

def sp_law (K : PySem.W.Frag) : Sp := fun vs H Q _ => ∃ (a : Addr) (ns : List Int), vs = [.ref a] ∧ SqL K H a (ns.map V.int) ∧ ns.length ≤ 63 ∧ ∀ H', Q (.bl true) H'
theorem cut_some (ns : List Int) (lo hi : Option Int) : ∃ zs : List Int, cutV (ns.map V.int) lo hi = zs.map V.int ∧ zs.length ≤ ns.length := by
  unfold cutV
  refine ⟨List.take (HT.sIx (ns.map V.int).length (ns.map V.int).length hi - HT.sIx (ns.map V.int).length 0 lo) (List.drop (HT.sIx (ns.map V.int).length 0 lo) ns), ?_, ?_⟩
  · rw [← List.map_drop, ← List.map_take]
  · rw [List.length_take, List.length_drop]
    omega
theorem cut_from (ds : List Int) (i : Nat) (h : i ≤ ds.length) : cutV (ds.map V.int) (some (i : Int)) none = (ds.drop i).map V.int := by
  unfold cutV
  have e : HT.sIx (ds.map V.int).length 0 (some (i : Int)) = i := by
    unfold HT.sIx
    rw [List.length_map]
    simp only []
    rw [if_neg (by omega)]
    omega
  have e2 : HT.sIx (ds.map V.int).length (ds.map V.int).length none = ds.length := by
    unfold HT.sIx
    rw [List.length_map]
  rw [e, e2, ← List.map_drop, ← List.map_take, List.take_of_length_le (by rw [List.length_drop]; omega)]
theorem digs_drop {ds : List Int} {n : Nat} (h : Digs ds n) (i k : Nat) (hk : i + k ≤ n) : Digs (ds.drop i) k :=
  ⟨by rw [List.length_drop]; have := h.1; omega, fun d hd => h.2 d (List.mem_of_mem_drop hd)⟩
theorem digs_of {ds : List Int} {n : Nat} (hl : ds.length = n) (b : Below ds (List.replicate n 420)) : Digs ds n := by
  refine ⟨by omega, fun d hd => ?_⟩
  obtain ⟨i, hi, rfl⟩ := List.getElem_of_mem hd
  exact b i _ 420 (List.getElem?_eq_getElem hi) (by rw [List.getElem?_replicate, if_pos (by omega)])
theorem good_num {K : PySem.W.Frag} {H : Hp} {p : Addr} {i j : Int} (h : H p = some (.tup [.int i, .int j])) (hi : i.natAbs < 2 ^ 1900) (hj : j.natAbs < 2 ^ 1900) : Good K H (.ref p) := good_t2 h hi hj
theorem few_small {s : Int} (h : fewB s = true) : s.natAbs < 2 ^ 1900 := by
  have h1 := of_decide_eq_true h
  have e : (10 : Int) ^ 300 < 2 ^ 1000 := by decide +kernel
  have e2 : (2 : Nat) ^ 1000 ≤ 2 ^ 1900 := Nat.pow_le_pow_right (by decide) (by decide)
  refine Nat.lt_of_lt_of_le ?_ e2
  have e3 : ((2 ^ 1000 : Nat) : Int) = (2 : Int) ^ 1000 := by simp
  generalize (10 : Int) ^ 300 = L at e h1
  generalize (2 : Int) ^ 1000 = M at e e3
  generalize (2 : Nat) ^ 1000 = M' at e3 ⊢
  split at h1 <;> omega
theorem sw_lim {k : Int} (h : k.natAbs < 2 ^ 1900) : Sw (limD k) 5 50 := (Sw.list (.cons (.str (by decide)) (.cons (.int h) (.cons (.bool _) (.cons (.bool _) .nil))))).up (by decide) (by decide)
theorem sw_res (s e : Int) : Sw (resD s e) 5 50 := by
  unfold resD
  by_cases hf : fewB s = true
  · rw [if_pos hf]
    by_cases he : -1000 ≤ e ∧ e ≤ 1000
    · rw [if_pos he]
      exact (Sw.tuple (.cons (.int (few_small hf)) (.cons (.int (Nat.lt_of_lt_of_le (show e.natAbs < 2 ^ 10 by omega) (Nat.pow_le_pow_right (by decide) (by decide)))) .nil))).up (by decide) (by decide)
    · rw [if_neg he]
      exact sw_lim (Nat.lt_of_lt_of_le (show (1000 : Int).natAbs < 2 ^ 10 by decide) (Nat.pow_le_pow_right (by decide) (by decide)))
  · rw [if_neg hf]
    exact sw_lim (Nat.lt_of_lt_of_le (show (300 : Int).natAbs < 2 ^ 10 by decide) (Nat.pow_le_pow_right (by decide) (by decide)))
/-- a form is there -/
theorem form_of {b : Int} (hb : 2 ≤ b) : ∀ (k : Nat) (n : Int), n.natAbs ≤ k → n ≠ 0 → ∃ (s : Int) (f : Nat), n = s * b ^ f ∧ s % b ≠ 0
  | 0, n, hk, h0 => absurd (Int.natAbs_eq_zero.mp (by omega)) h0
  | k + 1, n, hk, h0 => by
    by_cases hd : n % b = 0
    · have lt := div_less hb h0 hd
      have e : n = n / b * b := (Int.ediv_mul_cancel (Int.dvd_of_emod_eq_zero hd)).symm
      have h1 : n / b ≠ 0 := fun z => h0 (by rw [e, z, Int.zero_mul])
      obtain ⟨s, f, e2, no⟩ := form_of hb k (n / b) (by omega) h1
      refine ⟨s, f + 1, ?_, no⟩
      rw [Int.pow_succ, ← Int.mul_assoc, ← e2]
      exact e
    · exact ⟨n, 0, by simp, hd⟩
theorem lt7 {i : Int} {k : Nat} (h : i.natAbs < 2 ^ k) (hk : k ≤ 7000) : i.natAbs < 2 ^ 7000 := Nat.lt_of_lt_of_le h (Nat.pow_le_pow_right (by decide) hk)
/-- what both answers are -/
def ansD (b n e : Int) (d : PyData) : Prop := (n = 0 ∧ d = resD 0 0) ∨ ∃ (s : Int) (f : Nat), n ≠ 0 ∧ n = s * b ^ f ∧ s % b ≠ 0 ∧ d = resD s (e + f)
theorem ans_of {b : Int} (hb : 2 ≤ b) (n e : Int) : ∃ d, ansD b n e d ∧ Sw d 5 50 := by
  by_cases h0 : n = 0
  · exact ⟨_, .inl ⟨h0, rfl⟩, sw_res _ _⟩
  · obtain ⟨s, f, e1, no⟩ := form_of hb _ n (Nat.le_refl _) h0
    exact ⟨_, .inr ⟨s, f, h0, e1, no, rfl⟩, sw_res _ _⟩
/-- the promise of both, by the one answer -/
theorem out_of {K : PySem.W.Frag} {H : Hp} {Q : VK} {E : XK} {b n e : Int} {d : PyData} (hb : 2 ≤ b) (hb1 : b ≤ 36) (hn : n.natAbs < 2 ^ 7000) (hd : ansD b n e d)
    (k : ∀ (H' : Hp) (v : V), Same H H' → Dp K H' v d → Q v H') : sp_out K [.int b, .int n, .int e] H Q E := by
  refine ⟨b, n, e, rfl, hb, hb1, hn, fun h0 => ?_, fun s f h0 e1 no => ?_⟩
  · rcases hd with ⟨_, rfl⟩ | ⟨s, f, h1, _⟩
    · exact k
    · exact absurd h0 h1
  · rcases hd with ⟨h1, _⟩ | ⟨s', f', h1, e2, no2, rfl⟩
    · exact absurd h1 h0
    · obtain ⟨rfl, rfl⟩ := NM.one_form hb e1 no e2 no2
      exact k

theorem ok_law {P : Program} {w : World} {K : PySem.W.Frag} {mg : Str → Option Value} {base : Heap} (T : Tx K mg) : FnG P w K mg base CX0 12 T.f_law T.fd_law ["_law_script"] (sp_law K) := by
  have G_law_numbers := ok_law_numbers (P := P) (w := w) (base := base) T
  have G_law_base := ok_law_base (P := P) (w := w) (base := base) T
  have G_law_number := ok_law_number (P := P) (w := w) (base := base) T
  have G_law_altered := ok_law_altered (P := P) (w := w) (base := base) T
  have G_is_number := ok_is_number (P := P) (w := w) (base := base) T
  have G_law_is_number := ok_law_is_number (P := P) (w := w) (base := base) T
  have G_law_integer := ok_law_integer (P := P) (w := w) (base := base) T
  have G_law_power := ok_law_power (P := P) (w := w) (base := base) T
  have G_law_long := ok_law_long (P := P) (w := w) (base := base) T
  have G_law_got := ok_law_got (P := P) (w := w) (base := base) T
  have G_law_want := ok_law_want (P := P) (w := w) (base := base) T
  refine (FnG.mk0 T.law.F sc_law (fun vs H Q E h => ?_) (fun cdv A outer s H vs Q E quiet hr h => ?_))
  · obtain ⟨a, ns, rfl, hS, hlen, k⟩ := h
    rfl
  · obtain ⟨a, ns, rfl, hS, hlen, k⟩ := h
    have hu := hu_of hr
    have hu64 := hr.units
    refine ⟨_, (pss_cons (ps_for PassesOwn.never rfl (pi_enum (by rfl) T.b_enumerate (pa_cons (pe_op op_cat (pe_slice sl_list (pv 0) po_none (po_some pe_int)) (pe_op op_rep (pe_lst (pa_cons pe_int pa_nil)) (pe_callTy call_int1 (by rfl) T.b_int (by decide +kernel) (pa_cons (pe_cmpR (op_eqNil hu) (pv 0) (pe_lst pa_nil) (nomark _)) pa_nil)))) pa_nil)) (pg_tup rfl (pgs_cons (pg_name (i := 1) sc_law.nd rfl (Or.inl rfl)) (pgs_cons (pg_name (i := 2) sc_law.nd rfl (Or.inl rfl)) pgs_nil))) (pss_cons (ps_set (i := 3) sc_law.nd rfl (Or.inl rfl) (pe_call G_law_numbers (hr.mono (by decide)) rfl T.law_numbers.g T.law_numbers.F.kp T.law_numbers.b .nil pass0 (pa_cons (pv 2) (pa_cons (pe_op op_add pe_int (pv 1)) (pa_cons (pe_op op_rep (pe_lst (pa_cons pe_int pa_nil)) pe_int) pa_nil)))))
        (pss_cons (ps_set (i := 4) sc_law.nd rfl (Or.inl rfl) (pe_call G_law_base (hr.mono (by decide)) rfl T.law_base.g T.law_base.F.kp T.law_base.b .nil pass0 (pa_cons (pe_ix ix_list (pv 3) pe_int (fun _ _ => rfl)) pa_nil)))
        (pss_cons (ps_set (i := 5) sc_law.nd rfl (Or.inl rfl) (pe_call G_law_number (hr.mono (by decide)) rfl T.law_number.g T.law_number.F.kp T.law_number.b .nil pass0 (pa_cons (pv 4) (pa_cons (pe_slice sl_list (pv 3) (po_some pe_int) po_none) pa_nil))))
        (pss_cons (ps_for PassesOwn.never rfl (pi_list (pe_op op_cat (pe_lst (pa_cons (pv 5) pa_nil)) (pe_call G_law_altered (hr.mono (by decide)) rfl T.law_altered.g T.law_altered.F.kp T.law_altered.b .nil pass0 (pa_cons (pv 4) (pa_cons (pv 5) (pa_cons (pe_slice sl_list (pv 3) (po_some pe_int) po_none) pa_nil)))))) (pg_name (i := 6) sc_law.nd rfl (Or.inl rfl)) (pss_cons (ps_set (i := 7) sc_law.nd rfl (Or.inl rfl) (pe_callB (call_repr quiet hu64) (by rfl) T.b_repr (by decide +kernel) (pa_cons (pv 6) pa_nil)))
        (pss_one (ps_if (PW.pt (pw_or (pt_cmpR op_ne (pe_callB (call_repr quiet hu64) (by rfl) T.b_repr (by decide +kernel) (pa_cons (pe_call G_is_number (hr.mono (by decide)) rfl T.is_number.g T.is_number.F.kp T.is_number.b .nil pass0 (pa_cons (pv 4) (pa_cons (pv 6) pa_nil))) pa_nil)) (pe_callB (call_repr quiet hu64) (by rfl) T.b_repr (by decide +kernel) (pa_cons (pe_call G_law_is_number (hr.mono (by decide)) rfl T.law_is_number.g T.law_is_number.F.kp T.law_is_number.b .nil pass0 (pa_cons (pv 4) (pa_cons (pv 6) pa_nil))) pa_nil)) (nomark _)) (pw_or1 (pt_cmpR op_ne (pe_callB (call_repr quiet hu64) (by rfl) T.b_repr (by decide +kernel) (pa_cons (pv 6) pa_nil)) (pv 7) (nomark _))))) (pss_one (ps_ret pe_bl)) pss_nil))))
        (pss_cons (ps_set (i := 8) sc_law.nd rfl (Or.inl rfl) (pe_op op_mulW (pe_call G_law_integer (hr.mono (by decide)) rfl T.law_integer.g T.law_integer.F.kp T.law_integer.b .nil pass0 (pa_cons (pe_slice sl_list (pv 3) (po_some pe_int) po_none) pa_nil)) (pe_call G_law_power (hr.mono (by decide)) rfl T.law_power.g T.law_power.F.kp T.law_power.b .nil pass0 (pa_cons (pv 4) (pa_cons (pe_op op_mod (pe_ix ix_list (pv 3) pe_int (fun _ _ => rfl)) pe_int) pa_nil)))))
        (pss_cons (ps_set (i := 9) sc_law.nd rfl (Or.inl rfl) (pe_op op_add (pe_op op_sub (pe_call0 G_law_long (hr.mono (by decide)) rfl T.law_long.g T.law_long.F.kp T.law_long.b .nil pass0) pe_int) (pe_op op_mod (pe_ix ix_list (pv 3) pe_int (fun _ _ => rfl)) pe_int)))
        (pss_one (ps_for PassesOwn.never rfl (pi_list (pe_lst (pa_cons (pv 8) (pa_cons (pe_op op_sub pe_int (pv 8)) (pa_cons (pe_ix ix_tup (pv 5) pe_int (fun _ _ => rfl)) (pa_cons pe_int (pa_cons (pv 4) (pa_cons pe_int (pa_cons (pv 9) (pa_cons (pe_op op_sub pe_int (pv 9)) (pa_cons (pe_op op_mul (pv 9) (pv 4)) (pa_cons (pe_op op_mulW (pe_ix ix_tup (pv 5) pe_int (fun _ _ => rfl)) (pe_call0 G_law_long (hr.mono (by decide)) rfl T.law_long.g T.law_long.F.kp T.law_long.b .nil pass0)) pa_nil)))))))))))) (pg_name (i := 10) sc_law.nd rfl (Or.inl rfl)) (pss_one (ps_for PassesOwn.never rfl (pi_list (pe_lst (pa_cons (pe_op op_sub (pe_op op_mod (pe_ix ix_list (pv 3) pe_int (fun _ _ => rfl)) pe_int) pe_int) (pa_cons (pe_op op_sub pe_int (pe_op op_mod (pe_ix ix_list (pv 3) pe_int (fun _ _ => rfl)) pe_int)) (pa_cons (pe_op op_sub (pe_un un_neg pe_int) (pe_op op_mod (pe_ix ix_list (pv 3) pe_int (fun _ _ => rfl)) pe_int)) (pa_cons pe_int (pa_cons (pe_op op_pow pe_int pe_int) pa_nil))))))) (pg_name (i := 11) sc_law.nd rfl (Or.inl rfl)) (pss_one (ps_if (pt_cmpR op_ne (pe_callB (call_repr quiet hu64) (by rfl) T.b_repr (by decide +kernel) (pa_cons (pe_call G_law_got (hr.mono (by decide)) rfl T.law_got.g T.law_got.F.kp T.law_got.b .nil pass0 (pa_cons (pv 4) (pa_cons (pv 10) (pa_cons (pv 11) pa_nil)))) pa_nil)) (pe_callB (call_repr quiet hu64) (by rfl) T.b_repr (by decide +kernel) (pa_cons (pe_call G_law_want (hr.mono (by decide)) rfl T.law_want.g T.law_want.F.kp T.law_want.b .nil pass0 (pa_cons (pv 4) (pa_cons (pv 10) (pa_cons (pv 11) pa_nil)))) pa_nil)) (nomark _)) (pss_one (ps_ret pe_bl)) pss_nil)))))))))))))
        (pss_one (ps_ret pe_bl))), ?_⟩
    refine ⟨_, rfl, _, rfl, a, ns.map V.int, rfl, hS, fun p1 hp1 => ?_⟩
    obtain ⟨zs, ez, lz⟩ := cut_some ns none (some 10)
    have st1 := same_new (o := .lst (cutV (ns.map V.int) none (some 10))) (Same.refl _) hp1
    refine ⟨(by show 1 ≤ sizeLine; decide), fun p2 hp2 => ?_⟩
    have st2 := same_new (o := .lst [.int 7]) (Same.refl _) hp2
    refine ⟨_, rfl, (by show 0 ≤ sizeLine; decide), fun p3 hp3 => ?_⟩
    have st3 := same_new (o := .lst []) (Same.refl _) hp3
    have s3 := st1.trans (st2.trans st3)
    refine ⟨a, p3, _, rfl, rfl, s3.seq hS, SqL.of upd_same, .inr ⟨_, rfl, ?_⟩⟩
    generalize hkk : (if (ns.map V.int).isEmpty = true then (1 : Int) else 0) = kk
    have kk0 : 0 ≤ kk ∧ kk ≤ 1 := by rw [← hkk]; split <;> omega
    refine ⟨p2, kk, _, rfl, rfl, st3 p2 _ upd_same, by omega, by omega, ?_, fun p4 hp4 => ?_⟩
    · show 1 * kk.toNat ≤ sizeLine
      have : kk.toNat ≤ 1 := by omega
      exact Nat.le_trans (by omega : 1 * kk.toNat ≤ 1) (by decide)
    have er : (List.replicate kk.toNat [V.int 7]).flatten = (List.replicate kk.toNat (7 : Int)).map V.int := by
      rcases (by omega : kk = 0 ∨ kk = 1) with z | z <;> subst z <;> rfl
    have st4 := same_new (o := .lst (List.replicate kk.toNat [V.int 7]).flatten) (Same.refl _) hp4
    have le4 : (cutV (ns.map V.int) none (some 10)).length + ((List.replicate kk.toNat [V.int 7]).flatten).length ≤ 100 := by
      rw [ez, er, List.length_map, List.length_map, List.length_replicate]
      omega
    refine ⟨p1, p4, _, _, rfl, rfl, (st2.trans (st3.trans st4)) p1 _ upd_same, upd_same, Nat.le_trans le4 (by decide), fun p5 hp5 => ?_⟩
    have st5 := same_new (o := .lst (cutV (ns.map V.int) none (some 10) ++ (List.replicate kk.toNat [V.int 7]).flatten)) (Same.refl _) hp5
    have s5 := s3.trans (st4.trans st5)
    have ecells : cutV (ns.map V.int) none (some 10) ++ (List.replicate kk.toNat [V.int 7]).flatten = (zs ++ List.replicate kk.toNat (7 : Int)).map V.int := by rw [ez, er, List.map_append]
    have lcells : (zs ++ List.replicate kk.toNat (7 : Int)).length ≤ 100 := by rw [List.length_append, List.length_replicate]; omega
    generalize zs ++ List.replicate kk.toNat (7 : Int) = cells at ecells lcells
    refine ⟨p5, _, rfl, SqL.of upd_same, ?_⟩
    rw [ecells] at st5 s5 ⊢
    refine for_it (walk_enum (K := K) (a := p5) (xs := cells.map V.int)) (fun i σ H' => Same H H' ∧ SqL K H' p5 (cells.map V.int) ∧ ∃ v1 v2 v3 v4 v5 v6 v7 v8 v9 v10 v11, σ = [some (.ref a), v1, v2, v3, v4, v5, v6, v7, v8, v9, v10, v11]) ?_ ?_ ?_ ?_
    · exact ⟨s5, SqL.of upd_same, _, _, _, _, _, _, _, _, _, _, _, rfl⟩
    · rintro i σ H' _ ⟨_, h, _⟩
      exact h
    · rintro i x σ H0 H' hi ⟨sm0, hq0, v1, v2, v3, v4, v5, v6, v7, v8, v9, v10, v11, rfl⟩ ⟨tt, k0, c0, rfl, htt, rfl, ek, ec⟩
      cases ek
      rw [List.length_map] at hi
      have hi' : i ≤ 100 := by omega
      obtain ⟨cell, hc⟩ : ∃ z, cells[i]? = some z := ⟨_, List.getElem?_eq_getElem hi⟩
      have ec' : (cells.map V.int)[i]? = some c0 := ec
      rw [get_map hc] at ec'
      cases ec'
      have t1 := same_new (o := .tup [.int (i : Nat), .int cell]) (Same.refl _) htt
      refine ⟨tt, _, rfl, SqT.of upd_same, rfl, _, _, rfl, _, _, rfl, rfl, ?_⟩
      -- the digits
      refine ⟨_, rfl, _, rfl, _, _, rfl, rfl, (by show 1 ≤ sizeLine; decide), fun q1 hq1 => ?_⟩
      have t2 := same_new (o := .lst [.int 420]) (Same.refl _) hq1
      refine ⟨q1, 24, _, rfl, rfl, upd_same, by decide, by decide, (by show 24 ≤ sizeLine; decide), fun q2 hq2 => ?_⟩
      have t3 := same_new (o := .lst ((List.replicate 24 (420 : Int)).map V.int)) (Same.refl _) hq2
      refine ⟨cell, 200 + (i : Int), q2, List.replicate 24 420, rfl, by omega, by omega, SqL.of upd_same, by decide, (fun z hz => by have := List.eq_of_mem_replicate hz; omega), fun H1 q3 ds r1 nq3 hds hlen bl => ?_⟩
      have D := digs_of (n := 24) (by rw [hlen, List.length_replicate]) bl
      have len24 : ds.length = 24 := by rw [hlen, List.length_replicate]
      have c1 := t1.trans (t2.trans (t3.trans r1))
      have SD : SqL K H1 q3 (ds.map V.int) := SqL.of hds
      -- the base
      obtain ⟨d0, at0, l0, u0⟩ := digs_at D 0 (by decide)
      refine ⟨_, rfl, q3, _, _, _, rfl, rfl, SD, at0, d0, rfl, fun b H2 r2 b0 b1 => ?_⟩
      -- the number
      refine ⟨_, rfl, _, rfl, _, rfl, q3, _, rfl, r2.seq SD, fun q4 hq4 => ?_⟩
      rw [show cutV (ds.map V.int) (some 1) none = (ds.drop 1).map V.int from cut_from ds 1 (by omega)]
      have t4 := same_new (o := .lst ((ds.drop 1).map V.int)) (Same.refl _) hq4
      refine ⟨b, q4, ds.drop 1, rfl, b0, b1, SqL.of upd_same, digs_drop D 1 7 (by decide), fun H3 q5 n e r3 nq5 hN en0 enn sn le ue => ?_⟩
      have ST : SqT K H3 q5 [.int n, .int e] := SqT.of hN
      have c3 := r2.trans (t4.trans r3)
      have n1 : n.natAbs < 2 ^ 1900 := Nat.lt_of_lt_of_le sn (Nat.pow_le_pow_right (by decide) (by decide))
      have e1 : e.natAbs < 2 ^ 1900 := Nat.lt_of_lt_of_le (show e.natAbs < 2 ^ 9 by omega) (Nat.pow_le_pow_right (by decide) (by decide))
      -- [number] + altered
      refine ⟨_, rfl, (by show 1 ≤ sizeLine; decide), fun q6 hq6 => ?_⟩
      have t5 := same_new (o := .lst [.ref q5]) (Same.refl _) hq6
      refine ⟨_, rfl, _, rfl, _, rfl, _, rfl, q3, _, rfl, t5.seq (c3.seq SD), fun q7 hq7 => ?_⟩
      rw [show cutV (ds.map V.int) (some 8) none = (ds.drop 8).map V.int from cut_from ds 8 (by omega)]
      have t6 := same_new (o := .lst ((ds.drop 8).map V.int)) (Same.refl _) hq7
      refine ⟨b, n, e, q5, q7, ds.drop 8, rfl, b0, b1, sqT_same (t5.trans t6) ST, sn, le, ue, SqL.of upd_same, digs_drop D 8 2 (by decide), fun H4 q8 ws r4 nq8 hws lws gws => ?_⟩
      refine ⟨q6, q8, _, _, rfl, rfl, (t6.trans r4) q6 _ upd_same, hws, Nat.le_trans (show [V.ref q5].length + ws.length ≤ 51 by rw [List.length_cons, List.length_nil]; omega) (by decide), fun q9 hq9 => ?_⟩
      have t7 := same_new (o := .lst ([V.ref q5] ++ ws)) (Same.refl _) hq9
      have c4 := t5.trans (t6.trans (r4.trans t7))
      have good4 : ∀ v ∈ [V.ref q5] ++ ws, Good K (upd H4 q9 (.lst ([V.ref q5] ++ ws))) v := by
        intro v hv
        rcases List.mem_append.mp hv with hv | hv
        · have ev := List.mem_singleton.mp hv
          subst ev
          exact good_num (c4 q5 _ hN) n1 e1
        · exact good_same t7 (gws v hv)
      refine ⟨q9, rfl, ⟨_, SqL.of upd_same⟩, for_list (K := K) (a := q9) (xs := [V.ref q5] ++ ws) (fun _ σ H' => Same (upd H4 q9 (.lst ([V.ref q5] ++ ws))) H' ∧ ∃ v6 v7, σ = [some (.ref a), some (.int (i : Nat)), some (.int cell), some (.ref q3), some (.int b), some (.ref q5), v6, v7, v8, v9, v10, v11]) ?_ ?_ ?_ ?_⟩
      · exact ⟨Same.refl _, _, _, rfl⟩
      · rintro j σ H' _ ⟨s, _⟩
        exact SqL.of (s q9 _ upd_same)
      · rintro j x σ H' hj ⟨s, v6, v7, rfl⟩
        have gx := good_same s (good4 x (List.mem_of_getElem? hj))
        obtain ⟨d, kd, bd, hd, sw, hkd, hbd⟩ := id gx
        have lenD := sw.len hbd
        have dep := Nat.le_trans sw.dp hkd
        refine ⟨_, rfl, x, d, rfl, hd, sw.sh, dep, lenD, ?_⟩
        refine ⟨_, rfl, _, rfl, b, x, d, rfl, b0, b1, hd, ?_⟩
        refine ⟨_, .bool (isNum b d), rfl, .data (.bl _), rfl, Nat.zero_le _, (Sw.bool _).len (by decide), ?_⟩
        refine ⟨_, rfl, _, rfl, b, x, d, rfl, b0, b1, hd, fun H5 s5 => ?_⟩
        refine ⟨_, .bool (isNum b d), rfl, .data (.bl _), rfl, Nat.zero_le _, (Sw.bool _).len (by decide), ?_⟩
        refine ⟨rfl, _, rfl, ?_⟩
        refine ifNn rfl ?_
        refine ⟨_, rfl, x, d, rfl, shd_same s5 hd, sw.sh, dep, lenD, ?_⟩
        refine ⟨_, rfl, rfl, _, rfl, ?_⟩
        refine ifNn rfl ?_
        exact ⟨s.trans s5, _, _, rfl⟩
      rintro σ H5 ⟨s5', v6, v7, rfl⟩
      have c5 := c4.trans s5'
      have SD5 : SqL K H5 q3 (ds.map V.int) := (c3.trans c5).seq SD
      have ST5 : SqT K H5 q5 [.int n, .int e] := sqT_same c5 ST
      have ix0 : atI [V.int n, V.int e] 0 = some (V.int n) := rfl
      -- the lead, the top
      obtain ⟨d16, at16, l16, u16⟩ := digs_at D 16 (by decide)
      obtain ⟨d17, at17, l17, u17⟩ := digs_at D 17 (by decide)
      obtain ⟨d18, at18, l18, u18⟩ := digs_at D 18 (by decide)
      obtain ⟨d19, at19, l19, u19⟩ := digs_at D 19 (by decide)
      obtain ⟨d20, at20, l20, u20⟩ := digs_at D 20 (by decide)
      refine ⟨_, rfl, _, rfl, q3, _, rfl, SD5, fun q10 hq10 => ?_⟩
      rw [show cutV (ds.map V.int) (some 10) none = (ds.drop 10).map V.int from cut_from ds 10 (by omega)]
      have t8 := same_new (o := .lst ((ds.drop 10).map V.int)) (Same.refl _) hq10
      refine ⟨q10, ds.drop 10, rfl, SqL.of upd_same, digs_drop D 10 6 (by decide), fun H6 r6n r6 sr => ?_⟩
      have SD6 : SqL K H6 q3 (ds.map V.int) := (t8.trans r6).seq SD5
      refine ⟨_, rfl, _, rfl, q3, _, _, _, rfl, rfl, SD6, at16, _, _, rfl, rfl, (by show (0 : Int) < 40; decide), ?_⟩
      have e40 : d16 % 40 = (((d16 % 40).toNat : Nat) : Int) := by omega
      refine ⟨b, (d16 % 40).toNat, by rw [← e40]; rfl, b0, b1, by omega, ?_⟩
      generalize hcc : (d16 % 40).toNat = cc
      have cc40 : cc < 40 := by omega
      have wp := NM.pow_small (b := b) (by omega) b1 cc
      have wl : CMulW r6n (b ^ cc) := wide_mul sr wp (by decide) (by omega) (by omega)
      refine ⟨_, _, rfl, rfl, wl, ?_⟩
      have leadS : (r6n * b ^ cc).natAbs < 2 ^ 1000 := Nat.lt_of_lt_of_le (wide_lt sr wp) (Nat.pow_le_pow_right (by decide) (by omega))
      refine ⟨rfl, _, _, rfl, rfl, _, rfl, q3, _, _, _, rfl, rfl, SD6, at17, _, _, rfl, rfl, (by show (0 : Int) < 3; decide), _, _, rfl, rfl, ?_⟩
      have topS : ((10 : Int) ^ 300 - 1 + d17 % 3).natAbs < 2 ^ 1000 := by
        have e : (10 : Int) ^ 300 + 10 < 2 ^ 1000 := by decide +kernel
        have e0 : (1000 : Int) < 10 ^ 300 := by decide +kernel
        have e3 : ((2 ^ 1000 : Nat) : Int) = (2 : Int) ^ 1000 := by simp
        generalize (10 : Int) ^ 300 = L at e e0 ⊢
        generalize (2 : Int) ^ 1000 = M at e e3
        generalize (2 : Nat) ^ 1000 = M' at e3 ⊢
        omega
      have longS : ((10 : Int) ^ 300).natAbs < 2 ^ 1000 := by decide +kernel
      have ST6 : SqT K H6 q5 [.int n, .int e] := sqT_same (t8.trans r6) ST5
      -- the numerators
      refine ⟨_, rfl, _, rfl, _, _, rfl, rfl, _, rfl, q5, _, _, _, rfl, rfl, ST6, ix0, _, rfl, _, rfl, _, rfl, _, _, rfl, rfl, _, rfl, _, rfl, _, _, rfl, rfl, .inr ⟨by omega, by omega⟩, ?_⟩
      refine ⟨_, rfl, q5, _, _, _, rfl, rfl, ST6, ix0, rfl, _, _, rfl, rfl, ?_, (by show 10 ≤ sizeLine; decide), fun q11 hq11 => ?_⟩
      · exact wide_mul sn (show ((10 : Int) ^ 300).natAbs < 2 ^ 1000 by decide +kernel) (by decide) (by decide) (by decide)
      have t9 := same_new (o := .lst [V.int (r6n * b ^ cc), .int (0 - (r6n * b ^ cc)), .int n, .int 0, .int b, .int 1, .int ((10 : Int) ^ 300 - 1 + d17 % 3), .int (0 - ((10 : Int) ^ 300 - 1 + d17 % 3)), .int (((10 : Int) ^ 300 - 1 + d17 % 3) * b), .int (n * (10 : Int) ^ 300)]) (Same.refl _) hq11
      have numS : ∀ x ∈ [V.int (r6n * b ^ cc), .int (0 - (r6n * b ^ cc)), .int n, .int 0, .int b, .int 1, .int ((10 : Int) ^ 300 - 1 + d17 % 3), .int (0 - ((10 : Int) ^ 300 - 1 + d17 % 3)), .int (((10 : Int) ^ 300 - 1 + d17 % 3) * b), .int (n * (10 : Int) ^ 300)], ∃ z, x = .int z ∧ z.natAbs < 2 ^ 7000 := by
        have bS : b.natAbs < 2 ^ 6 := by omega
        intro x hx
        simp only [List.mem_cons, List.not_mem_nil, or_false] at hx
        rcases hx with rfl | rfl | rfl | rfl | rfl | rfl | rfl | rfl | rfl | rfl
        · exact ⟨_, rfl, lt7 leadS (by decide)⟩
        · exact ⟨_, rfl, lt7 (k := 1000) (by rw [Int.zero_sub, Int.natAbs_neg]; exact leadS) (by decide)⟩
        · exact ⟨_, rfl, lt7 sn (by decide)⟩
        · exact ⟨_, rfl, lt7 (k := 1) (by decide) (by decide)⟩
        · exact ⟨_, rfl, lt7 bS (by decide)⟩
        · exact ⟨_, rfl, lt7 (k := 1) (by decide) (by decide)⟩
        · exact ⟨_, rfl, lt7 topS (by decide)⟩
        · exact ⟨_, rfl, lt7 (k := 1000) (by rw [Int.zero_sub, Int.natAbs_neg]; exact topS) (by decide)⟩
        · exact ⟨_, rfl, lt7 (wide_lt topS bS) (by decide)⟩
        · exact ⟨_, rfl, lt7 (wide_lt sn longS) (by decide)⟩
      have c6 := t8.trans (r6.trans t9)
      have SD7 := c6.seq SD5
      refine ⟨q11, rfl, ⟨_, SqL.of upd_same⟩, for_list (K := K) (a := q11) (xs := [V.int (r6n * b ^ cc), .int (0 - (r6n * b ^ cc)), .int n, .int 0, .int b, .int 1, .int ((10 : Int) ^ 300 - 1 + d17 % 3), .int (0 - ((10 : Int) ^ 300 - 1 + d17 % 3)), .int (((10 : Int) ^ 300 - 1 + d17 % 3) * b), .int (n * (10 : Int) ^ 300)]) (fun _ σ H' => Same (upd H6 q11 (.lst [V.int (r6n * b ^ cc), .int (0 - (r6n * b ^ cc)), .int n, .int 0, .int b, .int 1, .int ((10 : Int) ^ 300 - 1 + d17 % 3), .int (0 - ((10 : Int) ^ 300 - 1 + d17 % 3)), .int (((10 : Int) ^ 300 - 1 + d17 % 3) * b), .int (n * (10 : Int) ^ 300)])) H' ∧
        ∃ v6 v7 v10 v11, σ = [some (.ref a), some (.int (i : Nat)), some (.int cell), some (.ref q3), some (.int b), some (.ref q5), v6, v7, some (.int (r6n * b ^ cc)), some (.int ((10 : Int) ^ 300 - 1 + d17 % 3)), v10, v11]) ?_ ?_ ?_ ?_⟩
      · exact ⟨Same.refl _, _, _, _, _, rfl⟩
      · rintro j σ H' _ ⟨s, _⟩
        exact SqL.of (s q11 _ upd_same)
      · rintro j x σ H7 hj ⟨s7, v6, v7, v10, v11, rfl⟩
        obtain ⟨num, rfl, hnum⟩ := numS x (List.mem_of_getElem? hj)
        have SD8 := s7.seq SD7
        refine ⟨_, rfl, q3, _, _, _, rfl, rfl, SD8, at18, _, _, rfl, rfl, (by show (0 : Int) < 60; decide), _, _, rfl, rfl, _, rfl, q3, _, _, _, rfl, rfl, SD8, at19, _, _, rfl, rfl, (by show (0 : Int) < 40; decide), _, _, rfl, rfl, ?_⟩
        refine ⟨_, rfl, _, rfl, q3, _, _, _, rfl, rfl, SD8, at20, _, _, rfl, rfl, (by show (0 : Int) < 40; decide), _, _, rfl, rfl, _, _, rfl, rfl, ⟨by decide, by decide, by decide⟩, (by show 5 ≤ sizeLine; decide), fun q12 hq12 => ?_⟩
        have t10 := same_new (o := .lst [V.int (d18 % 60 - 30), .int (1000 - d19 % 40), .int (-1000 - d20 % 40), .int 0, .int (10 ^ (30 : Int).toNat)]) (Same.refl _) hq12
        have expS : ∀ x ∈ [V.int (d18 % 60 - 30), .int (1000 - d19 % 40), .int (-1000 - d20 % 40), .int 0, .int (10 ^ (30 : Int).toNat)], ∃ z, x = .int z := by
          intro x hx
          simp only [List.mem_cons, List.not_mem_nil, or_false] at hx
          rcases hx with rfl | rfl | rfl | rfl | rfl <;> exact ⟨_, rfl⟩
        refine ⟨q12, rfl, ⟨_, SqL.of upd_same⟩, for_list (K := K) (a := q12) (xs := [V.int (d18 % 60 - 30), .int (1000 - d19 % 40), .int (-1000 - d20 % 40), .int 0, .int (10 ^ (30 : Int).toNat)]) (fun _ σ H' => Same (upd H7 q12 (.lst [V.int (d18 % 60 - 30), .int (1000 - d19 % 40), .int (-1000 - d20 % 40), .int 0, .int (10 ^ (30 : Int).toNat)])) H' ∧
          ∃ v11, σ = [some (.ref a), some (.int (i : Nat)), some (.int cell), some (.ref q3), some (.int b), some (.ref q5), v6, v7, some (.int (r6n * b ^ cc)), some (.int ((10 : Int) ^ 300 - 1 + d17 % 3)), some (.int num), v11]) ?_ ?_ ?_ ?_⟩
        · exact ⟨Same.refl _, _, rfl⟩
        · rintro j2 σ H' _ ⟨s, _⟩
          exact SqL.of (s q12 _ upd_same)
        · rintro j2 x2 σ H8 hj2 ⟨s8, v11, rfl⟩
          obtain ⟨ex, rfl⟩ := expS x2 (List.mem_of_getElem? hj2)
          obtain ⟨d, hd, sw⟩ := ans_of b0 num ex
          refine ⟨_, rfl, _, rfl, _, rfl, out_of (E := E0) b0 b1 hnum hd fun H9 w9 s9 dp9 => ?_⟩
          refine ⟨w9, d, rfl, .data dp9, sw.sh, Nat.le_trans sw.dp (by decide), sw.len (by decide), ?_⟩
          refine ⟨_, rfl, _, rfl, _, rfl, out_of (E := E0) b0 b1 hnum hd fun H10 w10 s10 dp10 => ?_⟩
          refine ⟨w10, d, rfl, .data dp10, sw.sh, Nat.le_trans sw.dp (by decide), sw.len (by decide), ?_⟩
          refine ⟨rfl, _, rfl, ?_⟩
          refine ifNn rfl ?_
          exact ⟨s8.trans (s9.trans s10), _, rfl⟩
        · rintro σ H8 ⟨s8, v11, rfl⟩
          exact ⟨s7.trans (t10.trans s8), _, _, _, _, rfl⟩
      · rintro σ H7 ⟨s7, v6, v7, v10, v11, rfl⟩
        have call := (c1.trans c3).trans (c5.trans (c6.trans s7))
        exact ⟨sm0.trans call, call.seq hq0, _, _, _, _, _, _, _, _, _, _, _, rfl⟩
    · rintro σ H' ⟨_, _, v1, v2, v3, v4, v5, v6, v7, v8, v9, v10, v11, rfl⟩
      exact k H'

end K02

namespace K02
open PySem L2 GL
theorem all_mk {l : PySem.W.OpenLaw} {w : World} {fa : Addr} {K : PySem.W.Frag} {h : Heap} {mg : Str → Option Value} (X : K.In h) (G : h.Ns mainGlobals mg) (hfa : mg "law" = some (.ref fa))
  {f_is_whole : Addr} {od_is_whole an_is_whole : Option Addr} {sl_is_whole : Array (Option Value)} {oc_is_whole kV_is_whole dc_is_whole pm_is_whole cd_is_whole ct_is_whole : Value}
  {f_is_within : Addr} {od_is_within an_is_within : Option Addr} {sl_is_within : Array (Option Value)} {oc_is_within kV_is_within dc_is_within pm_is_within cd_is_within ct_is_within : Value}
  {f_is_place : Addr} {od_is_place an_is_place : Option Addr} {sl_is_place : Array (Option Value)} {oc_is_place kV_is_place dc_is_place pm_is_place cd_is_place ct_is_place : Value}
  {f_power_of : Addr} {od_power_of an_power_of : Option Addr} {sl_power_of : Array (Option Value)} {oc_power_of kV_power_of dc_power_of pm_power_of cd_power_of ct_power_of : Value}
  {f_is_number : Addr} {od_is_number an_is_number : Option Addr} {sl_is_number : Array (Option Value)} {oc_is_number kV_is_number dc_is_number pm_is_number cd_is_number ct_is_number : Value}
  {f_make_number : Addr} {od_make_number an_make_number : Option Addr} {sl_make_number : Array (Option Value)} {oc_make_number kV_make_number dc_make_number pm_make_number cd_make_number ct_make_number : Value}
  {f_has_few_digits : Addr} {od_has_few_digits an_has_few_digits : Option Addr} {sl_has_few_digits : Array (Option Value)} {oc_has_few_digits kV_has_few_digits dc_has_few_digits pm_has_few_digits cd_has_few_digits ct_has_few_digits : Value}
  {f_without_factors : Addr} {od_without_factors an_without_factors : Option Addr} {sl_without_factors : Array (Option Value)} {oc_without_factors kV_without_factors dc_without_factors pm_without_factors cd_without_factors ct_without_factors : Value}
  {f_law_numbers : Addr} {od_law_numbers an_law_numbers : Option Addr} {sl_law_numbers : Array (Option Value)} {oc_law_numbers kV_law_numbers dc_law_numbers pm_law_numbers cd_law_numbers ct_law_numbers : Value}
  {f_law_power : Addr} {od_law_power an_law_power : Option Addr} {sl_law_power : Array (Option Value)} {oc_law_power kV_law_power dc_law_power pm_law_power cd_law_power ct_law_power : Value}
  {f_law_form : Addr} {od_law_form an_law_form : Option Addr} {sl_law_form : Array (Option Value)} {oc_law_form kV_law_form dc_law_form pm_law_form cd_law_form ct_law_form : Value}
  {f_law_base : Addr} {od_law_base an_law_base : Option Addr} {sl_law_base : Array (Option Value)} {oc_law_base kV_law_base dc_law_base pm_law_base cd_law_base ct_law_base : Value}
  {f_law_integer : Addr} {od_law_integer an_law_integer : Option Addr} {sl_law_integer : Array (Option Value)} {oc_law_integer kV_law_integer dc_law_integer pm_law_integer cd_law_integer ct_law_integer : Value}
  {f_law_number : Addr} {od_law_number an_law_number : Option Addr} {sl_law_number : Array (Option Value)} {oc_law_number kV_law_number dc_law_number pm_law_number cd_law_number ct_law_number : Value}
  {f_law_is_integer : Addr} {od_law_is_integer an_law_is_integer : Option Addr} {sl_law_is_integer : Array (Option Value)} {oc_law_is_integer kV_law_is_integer dc_law_is_integer pm_law_is_integer cd_law_is_integer ct_law_is_integer : Value}
  {f_law_long : Addr} {od_law_long an_law_long : Option Addr} {sl_law_long : Array (Option Value)} {oc_law_long kV_law_long dc_law_long pm_law_long cd_law_long ct_law_long : Value}
  {f_law_is_number : Addr} {od_law_is_number an_law_is_number : Option Addr} {sl_law_is_number : Array (Option Value)} {oc_law_is_number kV_law_is_number dc_law_is_number pm_law_is_number cd_law_is_number ct_law_is_number : Value}
  {f_law_altered : Addr} {od_law_altered an_law_altered : Option Addr} {sl_law_altered : Array (Option Value)} {oc_law_altered kV_law_altered dc_law_altered pm_law_altered cd_law_altered ct_law_altered : Value}
  {f_law_want : Addr} {od_law_want an_law_want : Option Addr} {sl_law_want : Array (Option Value)} {oc_law_want kV_law_want dc_law_want pm_law_want cd_law_want ct_law_want : Value}
  {f_law_got : Addr} {od_law_got an_law_got : Option Addr} {sl_law_got : Array (Option Value)} {oc_law_got kV_law_got dc_law_got pm_law_got cd_law_got ct_law_got : Value}
  {f_law : Addr} {od_law an_law : Option Addr} {sl_law : Array (Option Value)} {oc_law kV_law dc_law pm_law cd_law ct_law : Value}
  {C_LimitExceeded I_LimitExceeded N_LimitExceeded : Addr} {nm_LimitExceeded q_LimitExceeded : Str} {bs_LimitExceeded bm_LimitExceeded sub_LimitExceeded : List Value} {sn_LimitExceeded : List Str} {ab_LimitExceeded : Bool} {col_LimitExceeded : Option Bool} {dd_LimitExceeded : Option Addr} {m0_LimitExceeded m1_LimitExceeded m2_LimitExceeded m3_LimitExceeded m5_LimitExceeded : Option Value}
  {od_LimitExceeded an_LimitExceeded : Option Addr} {sl_LimitExceeded : Array (Option Value)} {oc_LimitExceeded dc_LimitExceeded pm_LimitExceeded cd_LimitExceeded cv_LimitExceeded : Value}
  {C_HeadError : Addr}
  {t_MAX_PLACE : Tok}
  {t_MAX_DIGITS : Tok}
  (a_is_whole : PySem.W.nsIn K mainGlobals "is_whole" = some (some (.ref f_is_whole)))
  (l_is_whole : K.lookup f_is_whole = some ⟨oc_is_whole, od_is_whole, .func (PySem.W.fnOf "is_whole" "is_whole" (defArgs s_is_whole) (defBody s_is_whole) (defScope s_is_whole) .none kV_is_whole dc_is_whole pm_is_whole an_is_whole cd_is_whole ct_is_whole), sl_is_whole⟩)
  (c_is_whole : PySem.W.codeIn K cd_is_whole "is_whole" = true)
  (k_is_whole : PySem.W.keepIn K (.ref f_is_whole) = true)
  (a_is_within : PySem.W.nsIn K mainGlobals "is_within" = some (some (.ref f_is_within)))
  (l_is_within : K.lookup f_is_within = some ⟨oc_is_within, od_is_within, .func (PySem.W.fnOf "is_within" "is_within" (defArgs s_is_within) (defBody s_is_within) (defScope s_is_within) .none kV_is_within dc_is_within pm_is_within an_is_within cd_is_within ct_is_within), sl_is_within⟩)
  (c_is_within : PySem.W.codeIn K cd_is_within "is_within" = true)
  (k_is_within : PySem.W.keepIn K (.ref f_is_within) = true)
  (a_is_place : PySem.W.nsIn K mainGlobals "is_place" = some (some (.ref f_is_place)))
  (l_is_place : K.lookup f_is_place = some ⟨oc_is_place, od_is_place, .func (PySem.W.fnOf "is_place" "is_place" (defArgs s_is_place) (defBody s_is_place) (defScope s_is_place) .none kV_is_place dc_is_place pm_is_place an_is_place cd_is_place ct_is_place), sl_is_place⟩)
  (c_is_place : PySem.W.codeIn K cd_is_place "is_place" = true)
  (k_is_place : PySem.W.keepIn K (.ref f_is_place) = true)
  (a_power_of : PySem.W.nsIn K mainGlobals "power_of" = some (some (.ref f_power_of)))
  (l_power_of : K.lookup f_power_of = some ⟨oc_power_of, od_power_of, .func (PySem.W.fnOf "power_of" "power_of" (defArgs s_power_of) (defBody s_power_of) (defScope s_power_of) .none kV_power_of dc_power_of pm_power_of an_power_of cd_power_of ct_power_of), sl_power_of⟩)
  (c_power_of : PySem.W.codeIn K cd_power_of "power_of" = true)
  (k_power_of : PySem.W.keepIn K (.ref f_power_of) = true)
  (a_is_number : PySem.W.nsIn K mainGlobals "is_number" = some (some (.ref f_is_number)))
  (l_is_number : K.lookup f_is_number = some ⟨oc_is_number, od_is_number, .func (PySem.W.fnOf "is_number" "is_number" (defArgs s_is_number) (defBody s_is_number) (defScope s_is_number) .none kV_is_number dc_is_number pm_is_number an_is_number cd_is_number ct_is_number), sl_is_number⟩)
  (c_is_number : PySem.W.codeIn K cd_is_number "is_number" = true)
  (k_is_number : PySem.W.keepIn K (.ref f_is_number) = true)
  (a_make_number : PySem.W.nsIn K mainGlobals "make_number" = some (some (.ref f_make_number)))
  (l_make_number : K.lookup f_make_number = some ⟨oc_make_number, od_make_number, .func (PySem.W.fnOf "make_number" "make_number" (defArgs s_make_number) (defBody s_make_number) (defScope s_make_number) .none kV_make_number dc_make_number pm_make_number an_make_number cd_make_number ct_make_number), sl_make_number⟩)
  (c_make_number : PySem.W.codeIn K cd_make_number "make_number" = true)
  (k_make_number : PySem.W.keepIn K (.ref f_make_number) = true)
  (a_has_few_digits : PySem.W.nsIn K mainGlobals "has_few_digits" = some (some (.ref f_has_few_digits)))
  (l_has_few_digits : K.lookup f_has_few_digits = some ⟨oc_has_few_digits, od_has_few_digits, .func (PySem.W.fnOf "has_few_digits" "has_few_digits" (defArgs s_has_few_digits) (defBody s_has_few_digits) (defScope s_has_few_digits) .none kV_has_few_digits dc_has_few_digits pm_has_few_digits an_has_few_digits cd_has_few_digits ct_has_few_digits), sl_has_few_digits⟩)
  (c_has_few_digits : PySem.W.codeIn K cd_has_few_digits "has_few_digits" = true)
  (k_has_few_digits : PySem.W.keepIn K (.ref f_has_few_digits) = true)
  (a_without_factors : PySem.W.nsIn K mainGlobals "without_factors" = some (some (.ref f_without_factors)))
  (l_without_factors : K.lookup f_without_factors = some ⟨oc_without_factors, od_without_factors, .func (PySem.W.fnOf "without_factors" "without_factors" (defArgs s_without_factors) (defBody s_without_factors) (defScope s_without_factors) .none kV_without_factors dc_without_factors pm_without_factors an_without_factors cd_without_factors ct_without_factors), sl_without_factors⟩)
  (c_without_factors : PySem.W.codeIn K cd_without_factors "without_factors" = true)
  (k_without_factors : PySem.W.keepIn K (.ref f_without_factors) = true)
  (a_law_numbers : PySem.W.nsIn K mainGlobals "_law_numbers" = some (some (.ref f_law_numbers)))
  (l_law_numbers : K.lookup f_law_numbers = some ⟨oc_law_numbers, od_law_numbers, .func (PySem.W.fnOf "_law_numbers" "_law_numbers" (defArgs s_law_numbers) (defBody s_law_numbers) (defScope s_law_numbers) .none kV_law_numbers dc_law_numbers pm_law_numbers an_law_numbers cd_law_numbers ct_law_numbers), sl_law_numbers⟩)
  (c_law_numbers : PySem.W.codeIn K cd_law_numbers "_law_numbers" = true)
  (k_law_numbers : PySem.W.keepIn K (.ref f_law_numbers) = true)
  (a_law_power : PySem.W.nsIn K mainGlobals "_law_power" = some (some (.ref f_law_power)))
  (l_law_power : K.lookup f_law_power = some ⟨oc_law_power, od_law_power, .func (PySem.W.fnOf "_law_power" "_law_power" (defArgs s_law_power) (defBody s_law_power) (defScope s_law_power) .none kV_law_power dc_law_power pm_law_power an_law_power cd_law_power ct_law_power), sl_law_power⟩)
  (c_law_power : PySem.W.codeIn K cd_law_power "_law_power" = true)
  (k_law_power : PySem.W.keepIn K (.ref f_law_power) = true)
  (a_law_form : PySem.W.nsIn K mainGlobals "_law_form" = some (some (.ref f_law_form)))
  (l_law_form : K.lookup f_law_form = some ⟨oc_law_form, od_law_form, .func (PySem.W.fnOf "_law_form" "_law_form" (defArgs s_law_form) (defBody s_law_form) (defScope s_law_form) .none kV_law_form dc_law_form pm_law_form an_law_form cd_law_form ct_law_form), sl_law_form⟩)
  (c_law_form : PySem.W.codeIn K cd_law_form "_law_form" = true)
  (k_law_form : PySem.W.keepIn K (.ref f_law_form) = true)
  (a_law_base : PySem.W.nsIn K mainGlobals "_law_base" = some (some (.ref f_law_base)))
  (l_law_base : K.lookup f_law_base = some ⟨oc_law_base, od_law_base, .func (PySem.W.fnOf "_law_base" "_law_base" (defArgs s_law_base) (defBody s_law_base) (defScope s_law_base) .none kV_law_base dc_law_base pm_law_base an_law_base cd_law_base ct_law_base), sl_law_base⟩)
  (c_law_base : PySem.W.codeIn K cd_law_base "_law_base" = true)
  (k_law_base : PySem.W.keepIn K (.ref f_law_base) = true)
  (a_law_integer : PySem.W.nsIn K mainGlobals "_law_integer" = some (some (.ref f_law_integer)))
  (l_law_integer : K.lookup f_law_integer = some ⟨oc_law_integer, od_law_integer, .func (PySem.W.fnOf "_law_integer" "_law_integer" (defArgs s_law_integer) (defBody s_law_integer) (defScope s_law_integer) .none kV_law_integer dc_law_integer pm_law_integer an_law_integer cd_law_integer ct_law_integer), sl_law_integer⟩)
  (c_law_integer : PySem.W.codeIn K cd_law_integer "_law_integer" = true)
  (k_law_integer : PySem.W.keepIn K (.ref f_law_integer) = true)
  (a_law_number : PySem.W.nsIn K mainGlobals "_law_number" = some (some (.ref f_law_number)))
  (l_law_number : K.lookup f_law_number = some ⟨oc_law_number, od_law_number, .func (PySem.W.fnOf "_law_number" "_law_number" (defArgs s_law_number) (defBody s_law_number) (defScope s_law_number) .none kV_law_number dc_law_number pm_law_number an_law_number cd_law_number ct_law_number), sl_law_number⟩)
  (c_law_number : PySem.W.codeIn K cd_law_number "_law_number" = true)
  (k_law_number : PySem.W.keepIn K (.ref f_law_number) = true)
  (a_law_is_integer : PySem.W.nsIn K mainGlobals "_law_is_integer" = some (some (.ref f_law_is_integer)))
  (l_law_is_integer : K.lookup f_law_is_integer = some ⟨oc_law_is_integer, od_law_is_integer, .func (PySem.W.fnOf "_law_is_integer" "_law_is_integer" (defArgs s_law_is_integer) (defBody s_law_is_integer) (defScope s_law_is_integer) .none kV_law_is_integer dc_law_is_integer pm_law_is_integer an_law_is_integer cd_law_is_integer ct_law_is_integer), sl_law_is_integer⟩)
  (c_law_is_integer : PySem.W.codeIn K cd_law_is_integer "_law_is_integer" = true)
  (k_law_is_integer : PySem.W.keepIn K (.ref f_law_is_integer) = true)
  (a_law_long : PySem.W.nsIn K mainGlobals "_law_long" = some (some (.ref f_law_long)))
  (l_law_long : K.lookup f_law_long = some ⟨oc_law_long, od_law_long, .func (PySem.W.fnOf "_law_long" "_law_long" (defArgs s_law_long) (defBody s_law_long) (defScope s_law_long) .none kV_law_long dc_law_long pm_law_long an_law_long cd_law_long ct_law_long), sl_law_long⟩)
  (c_law_long : PySem.W.codeIn K cd_law_long "_law_long" = true)
  (k_law_long : PySem.W.keepIn K (.ref f_law_long) = true)
  (a_law_is_number : PySem.W.nsIn K mainGlobals "_law_is_number" = some (some (.ref f_law_is_number)))
  (l_law_is_number : K.lookup f_law_is_number = some ⟨oc_law_is_number, od_law_is_number, .func (PySem.W.fnOf "_law_is_number" "_law_is_number" (defArgs s_law_is_number) (defBody s_law_is_number) (defScope s_law_is_number) .none kV_law_is_number dc_law_is_number pm_law_is_number an_law_is_number cd_law_is_number ct_law_is_number), sl_law_is_number⟩)
  (c_law_is_number : PySem.W.codeIn K cd_law_is_number "_law_is_number" = true)
  (k_law_is_number : PySem.W.keepIn K (.ref f_law_is_number) = true)
  (a_law_altered : PySem.W.nsIn K mainGlobals "_law_altered" = some (some (.ref f_law_altered)))
  (l_law_altered : K.lookup f_law_altered = some ⟨oc_law_altered, od_law_altered, .func (PySem.W.fnOf "_law_altered" "_law_altered" (defArgs s_law_altered) (defBody s_law_altered) (defScope s_law_altered) .none kV_law_altered dc_law_altered pm_law_altered an_law_altered cd_law_altered ct_law_altered), sl_law_altered⟩)
  (c_law_altered : PySem.W.codeIn K cd_law_altered "_law_altered" = true)
  (k_law_altered : PySem.W.keepIn K (.ref f_law_altered) = true)
  (a_law_want : PySem.W.nsIn K mainGlobals "_law_want" = some (some (.ref f_law_want)))
  (l_law_want : K.lookup f_law_want = some ⟨oc_law_want, od_law_want, .func (PySem.W.fnOf "_law_want" "_law_want" (defArgs s_law_want) (defBody s_law_want) (defScope s_law_want) .none kV_law_want dc_law_want pm_law_want an_law_want cd_law_want ct_law_want), sl_law_want⟩)
  (c_law_want : PySem.W.codeIn K cd_law_want "_law_want" = true)
  (k_law_want : PySem.W.keepIn K (.ref f_law_want) = true)
  (a_law_got : PySem.W.nsIn K mainGlobals "_law_got" = some (some (.ref f_law_got)))
  (l_law_got : K.lookup f_law_got = some ⟨oc_law_got, od_law_got, .func (PySem.W.fnOf "_law_got" "_law_got" (defArgs s_law_got) (defBody s_law_got) (defScope s_law_got) .none kV_law_got dc_law_got pm_law_got an_law_got cd_law_got ct_law_got), sl_law_got⟩)
  (c_law_got : PySem.W.codeIn K cd_law_got "_law_got" = true)
  (k_law_got : PySem.W.keepIn K (.ref f_law_got) = true)
  (a_law : PySem.W.nsIn K mainGlobals "law" = some (some (.ref f_law)))
  (l_law : K.lookup f_law = some ⟨oc_law, od_law, .func (PySem.W.fnOf "law" "law" (defArgs s_law) (defBody s_law) (defScope s_law) .none kV_law dc_law pm_law an_law cd_law ct_law), sl_law⟩)
  (c_law : PySem.W.codeIn K cd_law "law" = true)
  (k_law : PySem.W.keepIn K (.ref f_law) = true)
  (a_LimitExceeded : PySem.W.nsIn K mainGlobals "LimitExceeded" = some (some (.ref C_LimitExceeded)))
  (x_LimitExceeded : K.lookup C_LimitExceeded = some (excClassObj nm_LimitExceeded q_LimitExceeded C_LimitExceeded N_LimitExceeded bs_LimitExceeded bm_LimitExceeded true sn_LimitExceeded sub_LimitExceeded ab_LimitExceeded col_LimitExceeded dd_LimitExceeded m0_LimitExceeded m1_LimitExceeded m2_LimitExceeded m3_LimitExceeded m5_LimitExceeded "OverflowError.__new__"))
  (xt_LimitExceeded : PySem.W.excTail [.type "OverflowError", .type "ArithmeticError", .type "Exception", .type "BaseException", .type "object"] bm_LimitExceeded = true)
  (ov_LimitExceeded : PySem.W.excOver K C_LimitExceeded [.type "OverflowError", .type "ArithmeticError", .type "Exception", .type "BaseException", .type "object"] = true)
  (sa_LimitExceeded : PySem.W.findIn K (.ref C_LimitExceeded) "__setattr__" = some (some (.builtin "object.__setattr__")))
  (ga_LimitExceeded : PySem.W.findIn K (.ref C_LimitExceeded) "__getattribute__" = some (some (.builtin "BaseException.__getattribute__")))
  (gg_LimitExceeded : PySem.W.findIn K (.ref C_LimitExceeded) "__getattr__" = some none)
  (nn_LimitExceeded : PySem.W.findIn K (.ref C_LimitExceeded) "limit" = some none)
  (ii_LimitExceeded : PySem.W.findIn K (.ref C_LimitExceeded) "__init__" = some (some (.ref I_LimitExceeded)))
  (cc_LimitExceeded : PySem.W.findIn K (.ref C_LimitExceeded) "__class__" = some (some (.builtin "object.__class__")))
  (ti_LimitExceeded : PySem.W.typeIn K (.ref I_LimitExceeded) = some (.type "function"))
  (kc_LimitExceeded : PySem.W.keepIn K (.ref C_LimitExceeded) = true)
  (ex_LimitExceeded : PySem.W.subIn K (.ref C_LimitExceeded) (.type "BaseException") = some true)
  (tc_LimitExceeded : PySem.W.typeIn K (.ref C_LimitExceeded) = some (.type "type"))
  (hd_LimitExceeded : PySem.W.hasDictIn K C_LimitExceeded = true)
  (te_LimitExceeded : PySem.W.exmOne K (.ref C_LimitExceeded) (.ref C_LimitExceeded) = some true)
  (cn_LimitExceeded : PySem.W.specialIn K (.builtin "object.__class__") "__get__" = some (some (.builtin "getset_descriptor.__get__")))
  (ct_LimitExceeded : PySem.W.takesIn K (.builtin "object.__class__") = some true)
  (cm_LimitExceeded : PySem.W.mroIn K C_LimitExceeded (.type "object") = some true)
  (li_LimitExceeded : K.lookup I_LimitExceeded = some ⟨oc_LimitExceeded, od_LimitExceeded, .func (PySem.W.fnOf "__init__" "LimitExceeded.__init__" (defArgs (inClass (top 2) 0)) (defBody (inClass (top 2) 0)) (defScope (inClass (top 2) 0)) .none .none dc_LimitExceeded pm_LimitExceeded an_LimitExceeded cd_LimitExceeded cv_LimitExceeded), sl_LimitExceeded⟩)
  (ci_LimitExceeded : PySem.W.codeIn K cd_LimitExceeded "LimitExceeded.__init__" = true)
  (a_HeadError : PySem.W.nsIn K mainGlobals "HeadError" = some (some (.ref C_HeadError)))
  (n_MAX_PLACE : PySem.W.nsIn K mainGlobals "MAX_PLACE" = some (some (.int 1000 t_MAX_PLACE)))
  (n_MAX_DIGITS : PySem.W.nsIn K mainGlobals "MAX_DIGITS" = some (some (.int 300 t_MAX_DIGITS)))
  (z_OverflowError : PySem.W.nsIn K mainGlobals "OverflowError" = some none)
  (z_abs : PySem.W.nsIn K mainGlobals "abs" = some none)
  (z_bool : PySem.W.nsIn K mainGlobals "bool" = some none)
  (z_enumerate : PySem.W.nsIn K mainGlobals "enumerate" = some none)
  (z_int : PySem.W.nsIn K mainGlobals "int" = some none)
  (z_isinstance : PySem.W.nsIn K mainGlobals "isinstance" = some none)
  (z_len : PySem.W.nsIn K mainGlobals "len" = some none)
  (z_list : PySem.W.nsIn K mainGlobals "list" = some none)
  (z_max : PySem.W.nsIn K mainGlobals "max" = some none)
  (z_range : PySem.W.nsIn K mainGlobals "range" = some none)
  (z_repr : PySem.W.nsIn K mainGlobals "repr" = some none)
  (z_reversed : PySem.W.nsIn K mainGlobals "reversed" = some none)
  (z_tuple : PySem.W.nsIn K mainGlobals "tuple" = some none)
  (x_isOverflow : PySem.W.kitOne K (.ref C_LimitExceeded) (.type "OverflowError") = some true)
  (x_isHead : PySem.W.kitOne K (.ref C_LimitExceeded) (.ref C_HeadError) = some false)

    : ∃ fd : FuncData, (∀ (s : Shared) (v : Value), BindsTo s fd ⟨[v], []⟩ [("_law_script", v)]) ∧ ∀ base : Heap, K.In base → base.Ns mainGlobals mg → FnG l.prog w K mg base CX0 12 fa fd ["_law_script"] (sp_law K) := by
  have e := hfa.symm.trans (PySem.W.mg_of X G a_law)
  cases e
  have T : Tx K mg := mkTx X G a_is_whole l_is_whole c_is_whole k_is_whole a_is_within l_is_within c_is_within k_is_within a_is_place l_is_place c_is_place k_is_place a_power_of l_power_of c_power_of k_power_of a_is_number l_is_number c_is_number k_is_number a_make_number l_make_number c_make_number k_make_number a_has_few_digits l_has_few_digits c_has_few_digits k_has_few_digits a_without_factors l_without_factors c_without_factors k_without_factors a_law_numbers l_law_numbers c_law_numbers k_law_numbers a_law_power l_law_power c_law_power k_law_power a_law_form l_law_form c_law_form k_law_form a_law_base l_law_base c_law_base k_law_base a_law_integer l_law_integer c_law_integer k_law_integer a_law_number l_law_number c_law_number k_law_number a_law_is_integer l_law_is_integer c_law_is_integer k_law_is_integer a_law_long l_law_long c_law_long k_law_long a_law_is_number l_law_is_number c_law_is_number k_law_is_number a_law_altered l_law_altered c_law_altered k_law_altered a_law_want l_law_want c_law_want k_law_want a_law_got l_law_got c_law_got k_law_got a_law l_law c_law k_law a_LimitExceeded x_LimitExceeded xt_LimitExceeded ov_LimitExceeded sa_LimitExceeded ga_LimitExceeded gg_LimitExceeded nn_LimitExceeded ii_LimitExceeded cc_LimitExceeded ti_LimitExceeded kc_LimitExceeded ex_LimitExceeded tc_LimitExceeded hd_LimitExceeded te_LimitExceeded cn_LimitExceeded ct_LimitExceeded cm_LimitExceeded li_LimitExceeded ci_LimitExceeded a_HeadError n_MAX_PLACE n_MAX_DIGITS z_OverflowError z_abs z_bool z_enumerate z_int z_isinstance z_len z_list z_max z_range z_repr z_reversed z_tuple x_isOverflow x_isHead
  exact ⟨_, fun s v => .of_eq rfl, fun base _ _ => ok_law (P := l.prog) (w := w) (base := base) (mkTx X G a_is_whole l_is_whole c_is_whole k_is_whole a_is_within l_is_within c_is_within k_is_within a_is_place l_is_place c_is_place k_is_place a_power_of l_power_of c_power_of k_power_of a_is_number l_is_number c_is_number k_is_number a_make_number l_make_number c_make_number k_make_number a_has_few_digits l_has_few_digits c_has_few_digits k_has_few_digits a_without_factors l_without_factors c_without_factors k_without_factors a_law_numbers l_law_numbers c_law_numbers k_law_numbers a_law_power l_law_power c_law_power k_law_power a_law_form l_law_form c_law_form k_law_form a_law_base l_law_base c_law_base k_law_base a_law_integer l_law_integer c_law_integer k_law_integer a_law_number l_law_number c_law_number k_law_number a_law_is_integer l_law_is_integer c_law_is_integer k_law_is_integer a_law_long l_law_long c_law_long k_law_long a_law_is_number l_law_is_number c_law_is_number k_law_is_number a_law_altered l_law_altered c_law_altered k_law_altered a_law_want l_law_want c_law_want k_law_want a_law_got l_law_got c_law_got k_law_got a_law l_law c_law k_law a_LimitExceeded x_LimitExceeded xt_LimitExceeded ov_LimitExceeded sa_LimitExceeded ga_LimitExceeded gg_LimitExceeded nn_LimitExceeded ii_LimitExceeded cc_LimitExceeded ti_LimitExceeded kc_LimitExceeded ex_LimitExceeded tc_LimitExceeded hd_LimitExceeded te_LimitExceeded cn_LimitExceeded ct_LimitExceeded cm_LimitExceeded li_LimitExceeded ci_LimitExceeded a_HeadError n_MAX_PLACE n_MAX_DIGITS z_OverflowError z_abs z_bool z_enumerate z_int z_isinstance z_len z_list z_max z_range z_repr z_reversed z_tuple x_isOverflow x_isHead)⟩
theorem walk {l : PySem.W.OpenLaw} {q : Program} {loose : List Str} {XP : (Str → Option Value) → Heap → Prop} {YP : World → Heap → Prop} {d : DefRec} {K : Params → PySem.W.Frag} (hn : l.most = some 63) (hdf : d.params.defaults = [])
    (hY : ∀ (w : World) (h : Heap), YP w h → (K w.params).In h)
    (F : ∀ (w : World) (mg : Str → Option Value) (fa : Addr) (h : Heap), (K w.params).In h → h.Ns mainGlobals mg → mg d.name = some (.ref fa) →
      ∃ fd : FuncData, (∀ (s : Shared) (u : Value), BindsTo s fd ⟨[u], []⟩ [("_law_script", u)]) ∧ ∀ base : Heap, (K w.params).In base → base.Ns mainGlobals mg → FnG l.prog w (K w.params) mg base CX0 12 fa fd ["_law_script"] (sp_law (K w.params))) :
    PySem.W.WalkO q loose XP YP l.row.toRowW d [] (fun f vs => PySem.call f vs) :=
  walkG (n := 63) (k := 12) (x := "_law_script") (cx := fun _ => CX0) (sp := fun w => sp_law (K w.params)) hn (by decide) hdf ⟨rfl, by decide, by decide⟩ hY F (fun _ _ a ns hl _ hS => ⟨a, ns, rfl, hS, hl, fun _ => rfl⟩) fun _ _ _ _ _ z => z
end K02
open PySem PySem.W PyProof.Rows
set_option maxRecDepth 100000 in
set_option maxHeartbeats 0 in
theorem PySem.Challenge.cw_abacushead_k02_valid_numbers_holds : PySem.Challenge.rw_abacushead_k02_valid_numbers.Holds := by
  w_on; o_law; k_head; (case hw => w_witness2)
  k_fill
  refine K02.walk (l := PySem.Challenge.rw_abacushead_k02_valid_numbers) rfl rfl (fun w h Y => PySem.W.kIn_of Y) ?F
  case F =>
    intro w mg fa h KX G hmg
    refine' K02.all_mk KX G hmg ?a_is_whole ?l_is_whole ?c_is_whole ?k_is_whole ?a_is_within ?l_is_within ?c_is_within ?k_is_within ?a_is_place ?l_is_place ?c_is_place ?k_is_place ?a_power_of ?l_power_of ?c_power_of ?k_power_of ?a_is_number ?l_is_number ?c_is_number ?k_is_number ?a_make_number ?l_make_number ?c_make_number ?k_make_number ?a_has_few_digits ?l_has_few_digits ?c_has_few_digits ?k_has_few_digits ?a_without_factors ?l_without_factors ?c_without_factors ?k_without_factors ?a_law_numbers ?l_law_numbers ?c_law_numbers ?k_law_numbers ?a_law_power ?l_law_power ?c_law_power ?k_law_power ?a_law_form ?l_law_form ?c_law_form ?k_law_form ?a_law_base ?l_law_base ?c_law_base ?k_law_base ?a_law_integer ?l_law_integer ?c_law_integer ?k_law_integer ?a_law_number ?l_law_number ?c_law_number ?k_law_number ?a_law_is_integer ?l_law_is_integer ?c_law_is_integer ?k_law_is_integer ?a_law_long ?l_law_long ?c_law_long ?k_law_long ?a_law_is_number ?l_law_is_number ?c_law_is_number ?k_law_is_number ?a_law_altered ?l_law_altered ?c_law_altered ?k_law_altered ?a_law_want ?l_law_want ?c_law_want ?k_law_want ?a_law_got ?l_law_got ?c_law_got ?k_law_got ?a_law ?l_law ?c_law ?k_law ?a_LimitExceeded ?x_LimitExceeded ?xt_LimitExceeded ?ov_LimitExceeded ?sa_LimitExceeded ?ga_LimitExceeded ?gg_LimitExceeded ?nn_LimitExceeded ?ii_LimitExceeded ?cc_LimitExceeded ?ti_LimitExceeded ?kc_LimitExceeded ?ex_LimitExceeded ?tc_LimitExceeded ?hd_LimitExceeded ?te_LimitExceeded ?cn_LimitExceeded ?ct_LimitExceeded ?cm_LimitExceeded ?li_LimitExceeded ?ci_LimitExceeded ?a_HeadError ?n_MAX_PLACE ?n_MAX_DIGITS ?z_OverflowError ?z_abs ?z_bool ?z_enumerate ?z_int ?z_isinstance ?z_len ?z_list ?z_max ?z_range ?z_repr ?z_reversed ?z_tuple ?x_isOverflow ?x_isHead
    (case a_is_whole => first | k_is | rfl | decide +kernel)
    (case l_is_whole => first | k_is | rfl | decide +kernel)
    (case c_is_whole => first | k_is | rfl | decide +kernel)
    (case k_is_whole => first | k_is | rfl | decide +kernel)
    (case a_is_within => first | k_is | rfl | decide +kernel)
    (case l_is_within => first | k_is | rfl | decide +kernel)
    (case c_is_within => first | k_is | rfl | decide +kernel)
    (case k_is_within => first | k_is | rfl | decide +kernel)
    (case a_is_place => first | k_is | rfl | decide +kernel)
    (case l_is_place => first | k_is | rfl | decide +kernel)
    (case c_is_place => first | k_is | rfl | decide +kernel)
    (case k_is_place => first | k_is | rfl | decide +kernel)
    (case a_power_of => first | k_is | rfl | decide +kernel)
    (case l_power_of => first | k_is | rfl | decide +kernel)
    (case c_power_of => first | k_is | rfl | decide +kernel)
    (case k_power_of => first | k_is | rfl | decide +kernel)
    (case a_is_number => first | k_is | rfl | decide +kernel)
    (case l_is_number => first | k_is | rfl | decide +kernel)
    (case c_is_number => first | k_is | rfl | decide +kernel)
    (case k_is_number => first | k_is | rfl | decide +kernel)
    (case a_make_number => first | k_is | rfl | decide +kernel)
    (case l_make_number => first | k_is | rfl | decide +kernel)
    (case c_make_number => first | k_is | rfl | decide +kernel)
    (case k_make_number => first | k_is | rfl | decide +kernel)
    (case a_has_few_digits => first | k_is | rfl | decide +kernel)
    (case l_has_few_digits => first | k_is | rfl | decide +kernel)
    (case c_has_few_digits => first | k_is | rfl | decide +kernel)
    (case k_has_few_digits => first | k_is | rfl | decide +kernel)
    (case a_without_factors => first | k_is | rfl | decide +kernel)
    (case l_without_factors => first | k_is | rfl | decide +kernel)
    (case c_without_factors => first | k_is | rfl | decide +kernel)
    (case k_without_factors => first | k_is | rfl | decide +kernel)
    (case a_law_numbers => first | k_is | rfl | decide +kernel)
    (case l_law_numbers => first | k_is | rfl | decide +kernel)
    (case c_law_numbers => first | k_is | rfl | decide +kernel)
    (case k_law_numbers => first | k_is | rfl | decide +kernel)
    (case a_law_power => first | k_is | rfl | decide +kernel)
    (case l_law_power => first | k_is | rfl | decide +kernel)
    (case c_law_power => first | k_is | rfl | decide +kernel)
    (case k_law_power => first | k_is | rfl | decide +kernel)
    (case a_law_form => first | k_is | rfl | decide +kernel)
    (case l_law_form => first | k_is | rfl | decide +kernel)
    (case c_law_form => first | k_is | rfl | decide +kernel)
    (case k_law_form => first | k_is | rfl | decide +kernel)
    (case a_law_base => first | k_is | rfl | decide +kernel)
    (case l_law_base => first | k_is | rfl | decide +kernel)
    (case c_law_base => first | k_is | rfl | decide +kernel)
    (case k_law_base => first | k_is | rfl | decide +kernel)
    (case a_law_integer => first | k_is | rfl | decide +kernel)
    (case l_law_integer => first | k_is | rfl | decide +kernel)
    (case c_law_integer => first | k_is | rfl | decide +kernel)
    (case k_law_integer => first | k_is | rfl | decide +kernel)
    (case a_law_number => first | k_is | rfl | decide +kernel)
    (case l_law_number => first | k_is | rfl | decide +kernel)
    (case c_law_number => first | k_is | rfl | decide +kernel)
    (case k_law_number => first | k_is | rfl | decide +kernel)
    (case a_law_is_integer => first | k_is | rfl | decide +kernel)
    (case l_law_is_integer => first | k_is | rfl | decide +kernel)
    (case c_law_is_integer => first | k_is | rfl | decide +kernel)
    (case k_law_is_integer => first | k_is | rfl | decide +kernel)
    (case a_law_long => first | k_is | rfl | decide +kernel)
    (case l_law_long => first | k_is | rfl | decide +kernel)
    (case c_law_long => first | k_is | rfl | decide +kernel)
    (case k_law_long => first | k_is | rfl | decide +kernel)
    (case a_law_is_number => first | k_is | rfl | decide +kernel)
    (case l_law_is_number => first | k_is | rfl | decide +kernel)
    (case c_law_is_number => first | k_is | rfl | decide +kernel)
    (case k_law_is_number => first | k_is | rfl | decide +kernel)
    (case a_law_altered => first | k_is | rfl | decide +kernel)
    (case l_law_altered => first | k_is | rfl | decide +kernel)
    (case c_law_altered => first | k_is | rfl | decide +kernel)
    (case k_law_altered => first | k_is | rfl | decide +kernel)
    (case a_law_want => first | k_is | rfl | decide +kernel)
    (case l_law_want => first | k_is | rfl | decide +kernel)
    (case c_law_want => first | k_is | rfl | decide +kernel)
    (case k_law_want => first | k_is | rfl | decide +kernel)
    (case a_law_got => first | k_is | rfl | decide +kernel)
    (case l_law_got => first | k_is | rfl | decide +kernel)
    (case c_law_got => first | k_is | rfl | decide +kernel)
    (case k_law_got => first | k_is | rfl | decide +kernel)
    (case a_law => first | k_is | rfl | decide +kernel)
    (case l_law => first | k_is | rfl | decide +kernel)
    (case c_law => first | k_is | rfl | decide +kernel)
    (case k_law => first | k_is | rfl | decide +kernel)
    (case a_LimitExceeded => first | k_is | rfl | decide +kernel)
    (case x_LimitExceeded => first | k_is | rfl | decide +kernel)
    (case xt_LimitExceeded => first | k_is | rfl | decide +kernel)
    (case ov_LimitExceeded => first | k_is | rfl | decide +kernel)
    (case sa_LimitExceeded => first | k_is | rfl | decide +kernel)
    (case ga_LimitExceeded => first | k_is | rfl | decide +kernel)
    (case gg_LimitExceeded => first | k_is | rfl | decide +kernel)
    (case nn_LimitExceeded => first | k_is | rfl | decide +kernel)
    (case ii_LimitExceeded => first | k_is | rfl | decide +kernel)
    (case cc_LimitExceeded => first | k_is | rfl | decide +kernel)
    (case ti_LimitExceeded => first | k_is | rfl | decide +kernel)
    (case kc_LimitExceeded => first | k_is | rfl | decide +kernel)
    (case ex_LimitExceeded => first | k_is | rfl | decide +kernel)
    (case tc_LimitExceeded => first | k_is | rfl | decide +kernel)
    (case hd_LimitExceeded => first | k_is | rfl | decide +kernel)
    (case te_LimitExceeded => first | k_is | rfl | decide +kernel)
    (case cn_LimitExceeded => first | k_is | rfl | decide +kernel)
    (case ct_LimitExceeded => first | k_is | rfl | decide +kernel)
    (case cm_LimitExceeded => first | k_is | rfl | decide +kernel)
    (case li_LimitExceeded => first | k_is | rfl | decide +kernel)
    (case ci_LimitExceeded => first | k_is | rfl | decide +kernel)
    (case a_HeadError => first | k_is | rfl | decide +kernel)
    (case n_MAX_PLACE => first | k_is | rfl | decide +kernel)
    (case n_MAX_DIGITS => first | k_is | rfl | decide +kernel)
    (case z_OverflowError => first | k_is | rfl | decide +kernel)
    (case z_abs => first | k_is | rfl | decide +kernel)
    (case z_bool => first | k_is | rfl | decide +kernel)
    (case z_enumerate => first | k_is | rfl | decide +kernel)
    (case z_int => first | k_is | rfl | decide +kernel)
    (case z_isinstance => first | k_is | rfl | decide +kernel)
    (case z_len => first | k_is | rfl | decide +kernel)
    (case z_list => first | k_is | rfl | decide +kernel)
    (case z_max => first | k_is | rfl | decide +kernel)
    (case z_range => first | k_is | rfl | decide +kernel)
    (case z_repr => first | k_is | rfl | decide +kernel)
    (case z_reversed => first | k_is | rfl | decide +kernel)
    (case z_tuple => first | k_is | rfl | decide +kernel)
    (case x_isOverflow => first | k_is | rfl | decide +kernel)
    (case x_isHead => first | k_is | rfl | decide +kernel)
