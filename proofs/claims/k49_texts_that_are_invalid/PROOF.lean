import PyProof.Rows.All
import Wide.All
import OpenK.AllK
import Wide.FinOn
import HandS.ForExc
import HandS.Wide
import HandS.IsInst
import HandS.ExcIs
import KE.KExcInit
import KE.KExcIs
import HandS.ForMost
import HandS.WideMore
import HandS.WideBits
import HandS.RevRange
import HandS.Rev
import HandS.NoneIn
import HandS.TupMul
import PyProof.ListMulRight
import PyProof.ReprBulk
import HandS.OwnEq
import HandS.Exc
import HandS.ExcOwn
import HandS.Base
import HandS.Call
import HandS.List
import HandS.Dict
import HandS.Words
import HandS.Comp
import HandS.Iter
import HandS.SortInts
import HandS.Strs
import PyProof.Rows.StrOr
import HandS.Text
import HandS.MakeKwOnly
import HandS.Property
import HandS.ClsMeth
import HandS.SortKw
import HandS.More
import HandS.TupSets
import KE.DataMinMax
import HandS.Star
import HandS.TryOnly
import HandS.HeadHook3
import HandS.Style
import PyProof.Draws
import KE.GoesMore
import KE.GoesEnum
import HandS.TupAny
import HandS.WordsDict
import KE.SortData
import HandS.Sort
import HandS.GenYield
import HandS.GenList
import HandS.FStr
import HandS.StrMore
import KE.BitLaws
import HandS.Codes
import PySem.Challenge.RW_abacushead_k49_texts_that_are_invalid
set_option Elab.async false
set_option linter.all false
set_option maxRecDepth 100000
set_option exponentiation.threshold 100
namespace GL
open PySem L2 PySem.Spec PyProof.Rows
/-- nothing is being shown -/
abbrev Quiet (A : Around) : Prop := A.guards = some []
/-- a def's promise, asked only where nothing is being shown -/
structure FnQ (q : Around → Prop) (P : Program) (w : World) (K : PySem.W.Frag) (mg : Str → Option Value) (base : Heap) (cx : CXT) (k : Nat) (f : Addr)
    (fd : FuncData) (ps : List Str) (sp : Sp) : Prop where
  len : ∀ vs H Q E, sp vs H Q E → vs.length = ps.length
  go : ∀ {A : Around} {outer : List Env} {s : Shared} {H : Hp} {args : Args} {us : List Value} {vs : List V} {Q : VK} {E : XK},
    q A → Room k A → Env0 P w K mg base A outer s H → BindsTo s fd args (ps.zip us) → Vals vs us → sp vs H Q E →
    codeAny (model P w) A (.call (.ref f) args) (CR cx outer P w H s Q E) s
abbrev FnG (P : Program) (w : World) (K : PySem.W.Frag) (mg : Str → Option Value) (base : Heap) (cx : CXT) (k : Nat) (f : Addr) (fd : FuncData) (ps : List Str) (sp : Sp) : Prop := FnQ Quiet P w K mg base cx k f fd ps sp
section
variable {P : Program} {w : World} {K : PySem.W.Frag} {mg : Str → Option Value} {base : Heap} {cx : CXT} {k : Nat} {f : Addr}
  {fd : FuncData} {ps : List Str} {sp : Sp}
theorem FnG.of (F : FnOk P w K mg base cx k f fd ps sp) : FnG P w K mg base cx k f fd ps sp :=
  ⟨F.len, fun _ hr e b v h => F.run _ _ _ _ _ _ _ _ _ hr e b v h⟩
/-- a def by its body -/
theorem FnG.mkX {q : Around → Prop} {N : List Str} {x qual : Str} {st : Stmt} (F : Fun K x qual st f fd) (S : FnScope N ps (defScope st))
    (len : ∀ vs H Q E, sp vs H Q E → vs.length = ps.length)
    (body : ∀ (cdv : Value) (A : Around) (outer : List Env) (s : Shared) (H : Hp) (vs : List V) (Q : VK) (E : XK),
      q A → Room k (A.deeper (envOfC qual (defScope st) s.heap.objs.size f cdv)) → sp vs H Q E →
      ∃ t, PSs (cxOf cx P w K mg base N qual (defScope st) f cdv A outer s H E) (defBody st) t ∧
        t { nx := fun _ H' => Q .non H', rt := Q } (start N vs) H) : FnQ q P w K mg base cx (k + 1) f fd ps sp := by
  obtain ⟨oc, od, kV, doc, pm, an, cdv, ct, osl, rfl, lk, hcd⟩ := F.ex
  constructor
  · exact len
  · intro A outer s H args us vs Q E quiet hr e0 hb rv hsp
    have h1 := len _ _ _ _ hsp
    have KX : K.In s.heap := fun b o e => (e0.bs b o (e0.mod.kin b o e)).1
    have lim : s.heap.NoLimit := e0.mod.nolimit.keeps fun b o e => (e0.bs b o e).1
    obtain ⟨t, ht, hq⟩ := body cdv A outer s H vs Q E quiet (hr.deeper _) hsp
    refine codeAny_call_function hr.depth (KX _ _ lk) rfl S.co S.gen rfl (PySem.W.codeRec_of KX hcd) ?_
    refine hb _ _ _ _ (wpAny_newFunctionEnv_cells S.kind ?_ ?_)
    · rintro ⟨n, v⟩ hy
      have hp := (List.of_mem_zip hy).1
      cases S.par n hp with
      | inl q => exact Or.inl q
      | inr q => exact Or.inr ⟨q, PySem.W.cellsFrom_some _ _ _ (Or.inl q)⟩
    · intro env he s1 ic
      cases he
      refine ⟨lim.keeps ic.toInCall.keep, codeAny_func (wpAny_mono (ht.run [] s1 (start N vs) H _
        (inv_start S hr.hd e0 h1 rv ic) hq) ?_ fun _ _ z => z)⟩
      intro fl s' hs
      cases fl with
      | next =>
        obtain ⟨σ', H', J, q⟩ := hs
        exact ⟨V.non, H', J.os, J.bare, J.base, J.hok, rfl, q⟩
      | ret u =>
        obtain ⟨v, σ', H', J, r', q⟩ := hs
        exact ⟨v, H', J.os, J.bare, J.base, J.hok, r', q⟩
      | brk =>
        obtain ⟨_, _, _, q⟩ := hs
        exact (q : False).elim
      | cont =>
        obtain ⟨_, _, _, q⟩ := hs
        exact (q : False).elim
end
section
variable {P : Program} {w : World} {K : PySem.W.Frag} {mg mb : Str → Option Value} {cx : CXT} {k : Nat} {fa a : Addr} {fd : FuncData}
  {x : Str} {sp : Sp} {s₁ : Shared} {vs : List Value} {ns : List Int}
theorem law_goes (H : Hp) (hO : Only H) (hS : SqL K H a (ns.map V.int)) (hok : HOk P w H s₁.heap) (hA : ∀ b, H b ≠ none → b = a)
    (hK : H a ≠ none → K.lookup a = none)
    (KX : K.In s₁.heap) (hns : s₁.heap.Ns mainGlobals mg) (hb : s₁.heap.Ns builtinsNs mb)
    (hbb : ∀ x : Str, x ≠ "__name__" → mb x = bootBuiltins x) (hlim : s₁.heap.NoLimit) (hdig : s₁.heap.NoDigits) (hg : s₁.gens = #[])
    (ha : s₁.heap.get? a = some { cls := .type "list", data := .seq vs.toArray }) (hr : Room k callerA)
    (F : ∀ base : Heap, K.In base → base.Ns mainGlobals mg → base.NoDigits → FnG P w K mg base cx k fa fd [x] sp)
    (hbind : ∀ (s : Shared) (u : Value), BindsTo s fd ⟨[u], []⟩ [(x, u)])
    (hsp : sp [.ref a] H (fun v _ => v = .bl true) fun _ _ _ => False)
    (hcx : ∀ e s', cx [] H s₁ (fun _ _ _ => False) e s' → False) :
    codeAny (model P w) callerA (.call (.ref fa) ⟨[.ref a], []⟩)
      (fun r s' => r = .ok (.ret (.bool true)) ∧ OldK s₁.heap s'.heap ∧ s'.os = s₁.os ∧ AllBare s'.gens) s₁ := by
  have dictFree : ∀ b o es ep, s₁.heap.get? b = some o → o.data = .dict es ep → H b = none := by
    intro b o es ep e d
    by_cases q : H b = none
    · exact q
    · have := hA b q
      rw [this, ha] at e
      cases e
      cases (d : Data.seq vs.toArray _ = Data.dict es ep)
  have nsB : ∀ {b : Addr} {m : Str → Option Value}, s₁.heap.Ns b m → (hidT s₁.heap H).Ns b m := by
    rintro b m ⟨o, es, ep, e, d, r⟩
    exact ⟨o, es, ep, hidT_get e (dictFree b o es ep e d), d, r⟩
  have kB : K.In (hidT s₁.heap H) := by
    intro b o e
    refine hidT_get (KX b o e) ?_
    by_cases q : H b = none
    · exact q
    · have z := hA b q
      subst z
      rw [hK q] at e
      cases e
  obtain ⟨mc, l1, l2⟩ := hlim
  obtain ⟨md, d1, d2⟩ := hdig
  have M : Mod K mg (hidT s₁.heap H) := ⟨kB, nsB hns, ⟨mb, nsB hb, hbb⟩, mc, nsB l1, l2⟩
  have none0 : ∀ b : Addr, b ∉ frs ([] : List Env) := fun b z => by cases z
  have e0 : Env0 P w K mg (hidT s₁.heap H) callerA [] s₁ H :=
    ⟨rfl, M, fun b o e => of_hidT e, Nat.le_of_eq (hidT_size _ _), trivial, fun b z => (none0 b z).elim, hok, .of_eq hg⟩
  have main := (F _ kB (nsB hns) ⟨md, nsB d1, d2⟩).go (A := callerA) (outer := []) (H := H) (args := ⟨[.ref a], []⟩) (us := [.ref a]) rfl hr e0 (hbind s₁ (.ref a))
    (vs := [.ref a]) (.cons rfl .nil) hsp
  refine codeAny_mono main ?_
  intro res s' hs
  cases res with
  | error e => exact (hcx e s' hs).elim
  | ok fl =>
    cases fl with
    | next => exact (hs : False).elim
    | brk => exact (hs : False).elim
    | cont => exact (hs : False).elim
    | ret u =>
      obtain ⟨v, H', os, bare, un, hok', r', q⟩ := hs
      cases (q : v = .bl true)
      cases (r' : u = Value.bool true)
      refine ⟨rfl, OldK.of_keep ?_, os, bare⟩
      intro b o e
      cases hO b with
      | inl q => exact un.keep b o e q (none0 b) (by simp)
      | inr q =>
        obtain ⟨ob, xs, z⟩ := q
        have f1 := (hok b _ z).1
        have f2 := (hok' b _ (un.frzs b ob _ z)).1
        rw [f1] at e
        cases e
        exact f2
theorem law_callG (KX : K.In s₁.heap) (hns : s₁.heap.Ns mainGlobals mg) (hb : s₁.heap.Ns builtinsNs mb)
    (hbb : ∀ x : Str, x ≠ "__name__" → mb x = bootBuiltins x) (hlim : s₁.heap.NoLimit) (hdig : s₁.heap.NoDigits) (hg : s₁.gens = #[])
    (ha : s₁.heap.get? a = some { cls := .type "list", data := .seq vs.toArray }) (hi : IntsAre vs ns) (hl : ns.length ≤ sizeLine) (hr : Room k callerA)
    (F : ∀ base : Heap, K.In base → base.Ns mainGlobals mg → base.NoDigits → FnG P w K mg base cx k fa fd [x] sp)
    (hbind : ∀ (s : Shared) (u : Value), BindsTo s fd ⟨[u], []⟩ [(x, u)])
    (hsp : ∀ H : Hp, Only H → SqL K H a (ns.map V.int) → sp [.ref a] H (fun v _ => v = .bl true) fun _ _ _ => False)
    (hcx : ∀ H e s', cx [] H s₁ (fun _ _ _ => False) e s' → False) :
    codeAny (model P w) callerA (.call (.ref fa) ⟨[.ref a], []⟩)
      (fun r s' => r = .ok (.ret (.bool true)) ∧ OldK s₁.heap s'.heap ∧ s'.os = s₁.os ∧ AllBare s'.gens) s₁ := by
  have rv := vals_ints hi
  cases hk : K.lookup a with
  | some o =>
    have e := KX a o hk
    rw [ha] at e
    cases e
    have hS : SqL K (fun _ => none) a (ns.map V.int) :=
      .inr ⟨_, vs.toArray, _, hk, rfl, rfl, rfl, by rw [List.size_toArray, hi.length]; exact hl, by simpa using rv⟩
    have hO : Only fun _ => none := fun _ => .inl rfl
    exact law_goes (fun _ => none) hO hS (fun b u z => nomatch z) (fun b z => (z rfl).elim) (fun z => (z rfl).elim) KX hns hb hbb hlim hdig hg ha hr F hbind
      (hsp _ hO hS) (hcx _)
  | none =>
    let G : Hp := upd (fun _ => none) a (.frz { cls := .type "list", data := .seq vs.toArray } (.lst (ns.map V.int)))
    have atA : G a = some (.frz { cls := .type "list", data := .seq vs.toArray } (.lst (ns.map V.int))) := upd_same
    have off : ∀ b, b ≠ a → G b = none := fun b h => upd_ne h
    have hS : SqL K G a (ns.map V.int) := .inl (.inr ⟨_, atA⟩)
    have hO : Only G := fun b => by
      by_cases q : b = a
      · subst q
        exact .inr ⟨_, _, atA⟩
      · exact .inl (off b q)
    have hok : HOk P w G s₁.heap := by
      intro b u z
      by_cases q : b = a
      · subst q
        rw [atA] at z
        cases z
        exact ⟨ha, by rw [List.length_map]; exact hl, vs, _, rv, ha⟩
      · rw [off b q] at z
        cases z
    have hA : ∀ b, G b ≠ none → b = a := fun b z => by
      by_cases q : b = a
      · exact q
      · exact (z (off b q)).elim
    exact law_goes G hO hS hok hA (fun _ => hk) KX hns hb hbb hlim hdig hg ha hr F hbind (hsp _ hO hS) (hcx _)
end
/-- a law's row by its def's promise -/
theorem walkG {l : PySem.W.OpenLaw} {n k : Nat} {q : Program} {loose : List Str} {XP : (Str → Option Value) → Heap → Prop}
    {YP : World → Heap → Prop} {d : DefRec} {K : Params → PySem.W.Frag} {cx : World → CXT} {sp : World → Sp} {x : Str}
    (hn : l.most = some n) (hn2 : n ≤ sizeLine) (hdf : d.params.defaults = []) (hr : Room k callerA)
    (hY : ∀ (w : World) (h : Heap), YP w h → (K w.params).In h)
    (F : ∀ (w : World) (mg : Str → Option Value) (fa : Addr) (h : Heap), (K w.params).In h → h.Ns mainGlobals mg → mg d.name = some (.ref fa) →
      ∃ fd : FuncData, (∀ (s : Shared) (u : Value), BindsTo s fd ⟨[u], []⟩ [(x, u)]) ∧
        ∀ base : Heap, (K w.params).In base → base.Ns mainGlobals mg → base.NoDigits → FnG l.prog w (K w.params) mg base (cx w) k fa fd [x] (sp w))
    (hsp : ∀ (w : World) (H : Hp) (a : Addr) (ns : List Int), ns.length ≤ n → Only H → SqL (K w.params) H a (ns.map V.int) →
      sp w [.ref a] H (fun v _ => v = .bl true) fun _ _ _ => False)
    (hcx : ∀ (w : World) (H : Hp) (s : Shared) (e : Value) (s' : Shared), cx w [] H s (fun _ _ _ => False) e s' → False) :
    PySem.W.WalkO q loose XP YP l.row.toRowW d [] (fun f vs => PySem.call f vs) := by
  apply Att.attach_call hn hdf
  intro w s₀ s₁ mg mb fa o pm cd doc a vs ns G Y ho hd hcd hmg hobj hints hlen hgens
  have KX := hY w _ Y
  obtain ⟨fd, hb, hF⟩ := F w mg fa _ KX G.T.g hmg
  exact law_callG KX G.T.g G.T.b G.T.builtins G.T.nolimit G.T.nodigits hgens hobj hints (Nat.le_trans hlen hn2) hr hF hb
    (fun H hO hS => hsp w H a ns hlen hO hS) fun H e s' => hcx w H s₁ e s'
/-- a key as data -/
def kD : Key → PyData
  | .inl i => .int i
  | .inr x => .str x
/-- a value that is no object, as data -/
def flatD : V → PyData
  | .bl b => .bool b
  | .int i => .int i
  | .str x => .str x
  | _ => .none
def isFlat : V → Bool
  | .non | .bl _ | .int _ | .str _ => true
  | _ => false
/-- an item that is no object, or a dict of values that are no objects -/
inductive Mix1 (H : Hp) : V → PyData → Prop
  | flat {v : V} : isFlat v = true → Mix1 H v (flatD v)
  | dic {a : Addr} {kvs : List (Key × V)} : H a = some (.dK kvs) → (kvs.all fun p => isFlat p.2) = true → Mix1 H (.ref a) (.dict (kvs.map fun p => (kD p.1, flatD p.2)))
inductive MixAll (H : Hp) : List V → List PyData → Prop
  | nil : MixAll H [] []
  | cons {v : V} {vs : List V} {d : PyData} {ds : List PyData} : Mix1 H v d → MixAll H vs ds → MixAll H (v :: vs) (d :: ds)
/-- what stands at a value: data, or a dict of values that are no objects, or a tuple with such dicts -/
inductive ShD (K : PySem.W.Frag) (H : Hp) : V → PyData → Prop
  | data {v : V} {d : PyData} : Dp K H v d → ShD K H v d
  | mix {v : V} {d : PyData} : Mix1 H v d → ShD K H v d
  | tup {a : Addr} {xs : List V} {ds : List PyData} : SqT K H a xs → MixAll H xs ds → ShD K H (.ref a) (.tuple ds)
/-- repr(x) of data x -/
def rRepr (K : PySem.W.Frag) : List V → Hp → VK → Prop := fun xs H Q => ∃ x d, xs = [x] ∧ ShD K H x d ∧ d.showable = true ∧ d.depth ≤ 60 ∧
  d.shown.length ≤ sizeLine ∧ Q (.str d.shown) H
theorem Dp.noDict {K : PySem.W.Frag} {H : Hp} : ∀ (d : PyData) (v : V), Dp K H v d → d.hasDict = false := by
  intro d v h
  induction h using Dp.rec (motive_2 := fun vs ds _ => PyData.hasDictAll ds = false) with
  | non => rfl
  | bl => rfl
  | int => rfl
  | str => rfl
  | lst _ _ ih => simpa only [PyData.hasDict] using ih
  | tup _ _ ih => simpa only [PyData.hasDict] using ih
  | nil => rfl
  | cons _ _ h1 h2 => simp only [PyData.hasDictAll, h1, h2, Bool.or_self]
theorem reads_flat {h : Heap} {v : V} {u : Value} (f : isFlat v = true) (r : RelV v u) : Reads h u (flatD v) [] := by
  cases v with
  | non => cases r; exact .none
  | bl b => cases r; exact .bool b
  | int i => obtain ⟨t, rfl⟩ := r; exact .int i t
  | str x => obtain ⟨t, rfl⟩ := r; exact .str x t
  | _ => cases f
theorem reads_key {P : Program} {w : World} {h : Heap} {k : Key} {u : Value} (r : (mixKind P w).is k u = true) : Reads h u (kD k) [] := by
  rcases keyIs_shape r with ⟨i, t, rfl, rfl⟩ | ⟨x, t, rfl, rfl⟩
  · exact .int i t
  · exact .str x t
theorem reads_dic {P : Program} {w : World} {h : Heap} : ∀ {kvs : List (Key × V)} {vs : List (Key × Value)} {es : List DictEntry}, (kvs.all fun p => isFlat p.2) = true →
    KV kvs vs → Pairs (mixKind P w) es vs →
    ReadsAll h (es.map (·.key)) (kvs.map fun p => kD p.1) [] ∧ ReadsAll h (es.map (·.val)) (kvs.map fun p => flatD p.2) [] := by
  intro kvs vs es f kv pr
  induction pr generalizing kvs with
  | nil =>
    cases kv
    exact ⟨.nil, .nil⟩
  | cons hk hv _ ih =>
    cases kv with
    | cons h1 h2 =>
      simp only [List.all_cons, Bool.and_eq_true] at f
      obtain ⟨i1, i2⟩ := ih f.2 h2
      obtain ⟨e1, e2⟩ := h1
      constructor
      · exact ReadsAll.cons (as := []) (by dsimp only; rw [e1]; exact reads_key hk) i1
      · exact ReadsAll.cons (as := []) (by dsimp only; rw [hv]; exact reads_flat f.1 e2) i2
section
variable {X : Cx} {pins : List (Addr × Obj)} {σ : L2.St} {H : Hp} {s : Shared}
theorem Mix1.reads {v : V} {u : Value} {d : PyData} (I : Inv X pins σ H s) (h : Mix1 H v d) (r : RelV v u) : ∃ as, Reads s.heap u d as ∧ sysModules ∉ as := by
  cases h with
  | flat f => exact ⟨[], reads_flat f r, by simp⟩
  | @dic a kvs ha f =>
    cases r
    obtain ⟨_, ne, vs, kv, o, es, ep, h1, h2, h3, _, h5, _⟩ := I.hok a _ ha
    obtain ⟨q1, q2⟩ := reads_dic (h := s.heap) f kv h5
    refine ⟨_, Reads.dict h1 h2.1 h3 (by simpa only [List.map_map, Function.comp_def] using q1) (by simpa only [List.map_map, Function.comp_def] using q2), ?_⟩
    intro hm
    simp at hm
    simp [hm] at ne
theorem MixAll.reads (I : Inv X pins σ H s) : ∀ {vs : List V} {us : List Value} {ds : List PyData}, MixAll H vs ds → Vals vs us → ∃ as, ReadsAll s.heap us ds as ∧ sysModules ∉ as
  | _, _, _, .nil, .nil => ⟨[], .nil, by simp⟩
  | _, _, _, .cons h t, .cons r rt => by
    obtain ⟨as, q1, n1⟩ := h.reads I r
    obtain ⟨bs, q2, n2⟩ := MixAll.reads I t rt
    exact ⟨_, .cons q1 q2, by simp [n1, n2]⟩
theorem ShD.reads {v : V} {u : Value} {d : PyData} (I : Inv X pins σ H s) (h : ShD X.K H v d)
    (r : RelV v u) : ∃ as, Reads s.heap u d as ∧ (d.hasDict = true → sysModules ∉ as) := by
  cases h with
  | data h =>
    obtain ⟨as, q⟩ := Dp.reads I d v u h r
    exact ⟨as, q, fun z => by rw [Dp.noDict _ _ h] at z; cases z⟩
  | mix h =>
    obtain ⟨as, q, n⟩ := h.reads I r
    exact ⟨as, q, fun _ => n⟩
  | tup hs ha =>
    cases r
    obtain ⟨its, rv, ⟨o, ho, hc, n, hd⟩, _⟩ := I.tuple hs
    obtain ⟨as, hr, ns⟩ := MixAll.reads I ha rv
    exact ⟨_, Reads.tuple ho hc hd hr, fun _ => ns⟩
end
theorem call_repr {X : Cx} (quiet : Quiet X.A) (hu : X.A.units + 64 < cLine) : CallR X (.builtin "repr") (rRepr X.K) := by
  intro pins s σ H xs us Q I r h
  obtain ⟨x, d, rfl, hd, hs, hdep, hz, q⟩ := h
  obtain ⟨u, rfl, ru⟩ := vals1 r
  obtain ⟨as, rd, ns⟩ := hd.reads I ru
  have obj : ∀ a, u = .ref a → wpAny (model X.prog X.w) X.A (call (.builtin "repr") [u]) (EP X pins σ Q) X.xe s := by
    intro a e
    subst e
    exact repr_of_reads' rd hs ns quiet (by omega) (fun _ _ e => e) (fun h' u tk hk => ⟨.str _, H, I.kept hk, ⟨_, rfl⟩, q⟩) hz
  cases rd with
  | none => exact PySem.P.repr_of_none ⟨.str _, H, I.tok _, ⟨_, rfl⟩, q⟩
  | bool b => exact PySem.P.repr_of_bool ⟨.str _, H, I.tok _, ⟨_, rfl⟩, q⟩
  | int i t => exact PySem.P.repr_of_int (by simpa [PyData.showable] using hs) ⟨.str _, H, I.tok _, ⟨_, rfl⟩, q⟩
  | str y t => exact PySem.P.repr_of_str ⟨.str _, H, I.tok _, ⟨_, rfl⟩, q⟩ hz
  | list _ _ _ _ => exact obj _ rfl
  | tuple _ _ _ _ => exact obj _ rfl
  | dict _ _ _ _ _ => exact obj _ rfl
end GL
namespace GL
open PySem L2 PySem.Spec PyProof.Rows PySem.W Builtin Builtin.ObjectAttr
section
variable {prog : Program} {w : World} {A : Around} {R : Result → Shared → Prop} {K : Frag} {B : String} {bmB : List Value}
/-- the first attribute of an error -/
theorem first_store {s : Shared} {name : Str} {tk : Tok} {v : Value} {x C t0 : Addr} (SF : StoreFacts B bmB "object.__setattr__" "object") (X : K.In s.heap)
    (hx : s.heap.get? x = some (HandSPX.excO C t0)) (over : excOver K C bmB = true) (tk0 : takerIn K C name = some none) (hd : hasDictIn K C = true)
    (hq : ∀ h' tk' dx, (∀ b o, b ≠ x → s.heap.get? b = some o → h'.get? b = some o) → s.heap.objs.size ≤ dx → dx ≠ x →
      h'.get? x = some { cls := .ref C, dict := some dx, data := .fields #[.ref t0, .none, .none, .none, .bool false, .none] } →
      h'.Ns1 dx (fun y => if y = name then some v else none) → R (.ok (.ret .none)) { s with heap := h', toks := tk' }) :
    codeAny (model prog w) A (.call (.builtin "object.__setattr__") ⟨[.ref x, .str name tk, v], []⟩) R s := by
  refine osa_openX (ox := HandSPX.excO C t0) (od := none) SF X ⟨hx, rfl, rfl, trivial⟩ over tk0 fun b => ?_
  unfold hasDictIn at hd
  obtain ⟨cd, hc, hd'⟩ := any_some hd
  have small : x < s.heap.objs.size := Heap.lt_size hx
  have ne : x ≠ s.heap.objs.size := Nat.ne_of_lt small
  obtain ⟨hp, g, d, t, os⟩ := s
  refine wpAny_bind (wpAny_pure (wpAny_bind (instanceDict_exc (t := t0) (c2 := .none) hx (looks_clsIn X hc) hd' ?_)))
  show wpAny _ _ (storeInDict hp.objs.size (.str name tk) name v) _ _ _
  refine HandSPX.store_in_new ?_ ?_
  · exact ⟨_, #[], _, (Heap.get?_update_ne _ _ _ _ ne.symm).trans (Heap.get?_push_at rfl rfl), rfl, fun e he => absurd he (by simp), fun _ => rfl⟩
  · intro h' tk' hn same
    refine hq h' tk' hp.objs.size (fun b o hb ho => ?_) (Nat.le_refl _) ne.symm ?_ hn
    · exact (same.2 b (Nat.ne_of_lt (Heap.lt_size ho))).trans ((Heap.get?_update_ne _ _ _ _ hb).trans (Heap.get?_push_of_some _ ho))
    · exact (same.2 x ne).trans (Heap.get?_update_self _ (Heap.get?_push_of_some _ hx) rfl)
end
/-- the shape of __init__: the one parameter is stored under its own name -/
structure Init1 (st : Stmt) (qual fld : Str) : Prop where
  body : ∃ q1 q2 q3 q4, defBody st = [.Assign [.Attribute (.Name "self" q1) fld q2] (.Name fld q3) q4]
  n1 : List.lookup (Str.ofString "self") (defScope st).names = some NameKind.local
  n2 : List.lookup fld (defScope st).names = some NameKind.local
  kind : (defScope st).kind = .function
  co : (defScope st).isCoroutine = false
  gen : (defScope st).isGenerator = false
  ne : fld ≠ "self"
  dbg : (fld == ("__debug__" : Str)) = false
  bind : ∀ (doc pm : Value) (an : Option Addr) (cdv ct a v : Value), bindArgs (fnOf "__init__" qual (defArgs st) (defBody st) (defScope st) .none .none doc pm an cdv ct) ⟨[a, v], []⟩ = pure [(Str.ofString "self", a), (fld, v)]
  k1 : ∀ (L f : Addr) (cd : Value), (envOfC qual (defScope st) L f cd).kindOf "self" = some .local
  k2 : ∀ (L f : Addr) (cd : Value), (envOfC qual (defScope st) L f cd).kindOf fld = some .local
  sw : ∀ (L f : Addr) (cd : Value) (q1 q2 q3 q4 : Pos), swapsWith (.Name fld q3) (some (.Attribute (.Name "self" q1) fld q2)) q4.line (envOfC qual (defScope st) L f cd) = pure false
/-- what the text says of an error class x with the one field fld, over the built-in class B -/
structure ErrTxt (K : Frag) (mg : Str → Option Value) (C fI : Addr) (x fld : Str) (B newId : String) (bmB : List Value) : Prop where
  gC : mg x = some (.ref C)
  cls : ∃ nm q N bs bm sn sub ab col dd k0 k1 k2 k3 k5, K.lookup C = some (excClassObj nm q C N bs bm true sn sub ab col dd k0 k1 k2 k3 k5 newId) ∧ excTail bmB bm = true
  FB : ∃ initId, ExcBaseFacts B newId initId bmB
  SF : StoreFacts B bmB "object.__setattr__" "object"
  over : excOver K C bmB = true
  sa : findIn K (.ref C) "__setattr__" = some (some (.builtin "object.__setattr__"))
  ga : findIn K (.ref C) "__getattribute__" = some (some (.builtin "BaseException.__getattribute__"))
  gg : findIn K (.ref C) "__getattr__" = some none
  noN : findIn K (.ref C) fld = some none
  iC : findIn K (.ref C) "__init__" = some (some (.ref fI))
  tC : typeIn K (.ref fI) = some (.type "function")
  kC : keepIn K (.ref C) = true
  exC : subIn K (.ref C) (.type "BaseException") = some true
  tyC : typeIn K (.ref C) = some (.type "type")
  hdC : hasDictIn K C = true
  te : exmOne K (.ref C) (.ref C) = some true
  cc : findIn K (.ref C) "__class__" = some (some (.builtin "object.__class__"))
  cn : specialIn K (.builtin "object.__class__") "__get__" = some (some (.builtin "getset_descriptor.__get__"))
  ct : takesIn K (.builtin "object.__class__") = some true
  cm : mroIn K C (.type "object") = some true
  fn : ∃ (oc : Value) (od : Option Addr) (doc pm : Value) (an : Option Addr) (cdv ct : Value) (osl : Array (Option Value)) (st : Stmt) (qual : Str),
    K.lookup fI = some ⟨oc, od, .func (fnOf "__init__" qual (defArgs st) (defBody st) (defScope st) .none .none doc pm an cdv ct), osl⟩ ∧ codeIn K cdv qual = true ∧ Init1 st qual fld
theorem one_le (v : Value) : [v].length ≤ sizeLine := by
  rw [sizeLine_eq]
  exact (by decide : 1 ≤ 16777216)
/-- what __init__ leaves -/
structure InitLeft (h h' : Heap) (x C dx t1 : Addr) (fld : Str) (v : Value) : Prop where
  keep : ∀ b o, b ≠ x → h.get? b = some o → h'.get? b = some o
  obj : h'.get? x = some { cls := .ref C, dict := some dx, data := .fields #[.ref t1, .none, .none, .none, .bool false, .none] }
  dbig : h.objs.size ≤ dx
  dne : dx ≠ x
  ns : h'.Ns1 dx (fun y => if y = fld then some v else none)
/-- a made error -/
structure ErrMade (h h' : Heap) (e C d : Addr) (fld : Str) (v : Value) : Prop where
  keep : ∀ b o, h.get? b = some o → h'.get? b = some o
  new : h.objs.size ≤ e
  obj : ∃ oe vs, h'.get? e = some oe ∧ oe.cls = .ref C ∧ oe.dict = some d ∧ oe.data = .fields vs ∧ vs[1]? = some .none
  dbig : h.objs.size ≤ d
  dne : d ≠ e
  ns : h'.Ns1 d (fun y => if y = fld then some v else none)
section
variable {prog : Program} {w : World} {A : Around} {E : Value → Shared → Prop} {R : Result → Shared → Prop} {s : Shared} {K : Frag} {mg : Str → Option Value} {C fI : Addr}
  {x fld : Str} {B newId : String} {bmB : List Value}
theorem ld_local {M : Model} {name : Str} {scope : Scope} {L a : Addr} {cd : Value} {m : Str → Option Value} {y : Str} {pos : Pos} {v : Value} {Q : Value → Shared → Prop}
    (hn : s.heap.Ns L m) (hv : m y = some v) (h : Q v s) (hk : scope.kind = .function) (hl : (envOfC name scope L a cd).kindOf y = some .local) (hd : (y == ("__debug__" : Str)) = false) :
    wpAny M A (eval (.Name y pos) (envOfC name scope L a cd)) Q E s := wpAny_Name (wpAny_loadName_local hk hl hn hv h) hd
theorem err_init (T : ErrTxt K mg C fI x fld B newId bmB) {e t0 : Addr} {v : Value} (X : K.In s.heap) (hlim : s.heap.NoLimit) (hx : s.heap.get? e = some (HandSPX.excO C t0))
    (hnx : K.lookup e = none) (hroom : A.depth < recursionLimit)
    (hq : ∀ h' tk dx, InitLeft s.heap h' e C dx t0 fld v → R (.ok (.ret .none)) { s with heap := h', toks := tk }) :
    codeAny (model prog w) A (.call (.ref fI) ⟨[.ref e, v], []⟩) R s := by
  obtain ⟨oc, od, doc, pm, an, cdv, ct, osl, st, qual, ho, hcd, S⟩ := T.fn
  obtain ⟨q1, q2, q3, q4, hbody⟩ := S.body
  refine Att.call_fn (binds := [(Str.ofString "self", .ref e), (fld, v)]) X hlim ho hcd hroom (BindsTo.of_eq (S.bind doc pm an cdv ct (.ref e) v)) ?_ (fun s₁ IC => ?_) S.co S.gen S.kind
  · simp [S.n1, S.n2]
  obtain ⟨h₁, tk₁, rfl⟩ := IC.toInCall.same
  have k : ∀ b o, s.heap.get? b = some o → h₁.get? b = some o := IC.toInCall.keep
  have hn := IC.toInCall.ns
  have neL : s.heap.objs.size ≠ e := Nat.ne_of_gt (Heap.lt_size hx)
  have X₁ : K.In h₁ := X.keeps k
  have hx₁ := k _ _ hx
  rw [hbody]
  refine wpAny_execs_cons (plainObj_wpAny_Assign_Attribute ?_ (S.sw _ _ _ _ _ _ _))
  refine ld_local (v := v) hn ?_ (ld_local (v := .ref e) hn ?_ ?_ S.kind (S.k1 _ _ _) (by decide)) S.kind (S.k2 _ _ _) S.dbg
  · simp [bindL, S.k1, S.k2]
  · simp [bindL, S.k1, S.k2, Ne.symm S.ne]
  refine set_plain X₁ (ox := HandSPX.excO C t0) (od := none) ⟨hx₁, rfl, rfl, trivial⟩ T.sa ?_
  refine first_store (s := ⟨h₁, s.gens, s.drawn, tk₁ + 1, s.os⟩) T.SF X₁ hx₁ T.over (by unfold takerIn; rw [T.noN]; rfl) T.hdC (fun h₃ tk₃ dx k₃ dn dne hx₃ hn₃ => ?_)
  show wpAny _ _ (execs _ _) _ _ _
  have z : s.heap.objs.size < h₁.objs.size := hn.lt
  exact wpAny_execs_nil (hq h₃ tk₃ dx ⟨fun b o hb q => k₃ b o hb (k b o q), hx₃, Nat.le_of_lt (Nat.lt_of_lt_of_le z dn), dne, hn₃⟩)
theorem err_made (T : ErrTxt K mg C fI x fld B newId bmB) {v : Value} (X : K.In s.heap) (hlim : s.heap.NoLimit) (hroom : A.depth + 1 < recursionLimit)
    (hq : ∀ h' tk e d, ErrMade s.heap h' e C d fld v → R (.ok (.ret (.ref e))) { s with heap := h', toks := tk }) :
    codeAny (model prog w) A (.call (.ref C) ⟨[v], []⟩) R s := by
  obtain ⟨nm, q, N, bs, bm, sn, sub, ab, col, dd, k0, k1, k2, k3, k5, hC, hbm⟩ := T.cls
  obtain ⟨initId, FB⟩ := T.FB
  obtain ⟨hp, g, dr, tk, os⟩ := s
  have k : ∀ b o, hp.get? b = some o → ((hp.push (kdv_tup [v])).push (HandSPX.excO C hp.objs.size)).get? b = some o := fun b o q =>
    Heap.get?_push_of_some _ (Heap.get?_push_of_some _ q)
  have here : ((hp.push (kdv_tup [v])).push (HandSPX.excO C hp.objs.size)).get? (hp.objs.size + 1) = some (HandSPX.excO C hp.objs.size) := by heap_get
  have fresh : K.lookup (hp.objs.size + 1) = none := by
    cases q : K.lookup (hp.objs.size + 1) with
    | none => rfl
    | some o => exact absurd (Nat.lt_of_succ_lt (Heap.lt_size (X _ _ q : hp.get? (hp.objs.size + 1) = some o))) (Nat.lt_irrefl _)
  refine HandSPX.call_own FB (fun Y => excTail_contains Y bm hbm) (X _ _ hC) (looks_findIn X T.iC) (fun self => bind_fn X self T.tC) (one_le v) ?_
  refine err_init (s := ⟨(hp.push (kdv_tup [v])).push (HandSPX.excO C hp.objs.size), g, dr, tk, os⟩) T (X.keeps k) (hlim.keeps k) here fresh ?_ ?_
  · exact hroom
  · rintro h' tk' dx ⟨k', hx, dn, dne, hns⟩
    have big : hp.objs.size + 1 + 1 ≤ dx := by
      have q := dn
      rw [Heap.size_push, Heap.size_push] at q
      exact q
    refine ⟨rfl, hq h' tk' (hp.objs.size + 1) dx ⟨fun b o q => ?_, Nat.le_succ _, ⟨_, _, hx, rfl, rfl, rfl, rfl⟩, Nat.le_trans (Nat.le_trans (Nat.le_succ _) (Nat.le_succ _)) big, dne, hns⟩⟩
    exact k' b o (Nat.ne_of_lt (Nat.lt_succ_of_lt (Heap.lt_size q))) (k b o q)
end
theorem relO_one {fld : Str} {v : V} {v' : Value} (r : RelV v v') (f : Str) : RelO (List.lookup f [(fld, v)]) (if f = fld then some v' else none) := by
  by_cases hw : f = fld
  · subst hw
    rw [if_pos rfl]
    simp only [List.lookup, BEq.rfl]
    exact r
  · rw [if_neg hw]
    have q : (f == fld) = false := by simpa using hw
    simp only [List.lookup, q]
    trivial
section
variable {X : Cx} {C fI : Addr} {x fld : Str} {B newId : String} {bmB : List Value}
/-- x(e), an error's making -/
def tErr (C : Addr) (fld : Str) (ta : TA) : L2.St → Hp → XK → Prop := fun σ H Q => ta σ H fun vs H1 => ∃ v, vs = [v] ∧ ∀ d, H1 d = none → Q (.ref C) (some d) (upd H1 d (.xd [(fld, v)]))
theorem pmk_err {a : Expr} {ta : TA} {p pos : Pos} {k : Nat} (T : ErrTxt X.K X.mg C fI x fld B newId bmB) (hr : Room k X.A) (ha : PA X [a] ta) (hg : Gl X x := by rfl)
    (hdb : (x == ("__debug__" : Str)) = false := by decide)
    (he : starEach (a :: []) X.env = (false, eval a X.env) :: starEach [] X.env := by rfl) (hpl : (backTo pos (starEach [] X.env)).any (·.1) = false := by rfl) :
    PMk X (.Call (.Name x p) [a] [] pos) (tErr C fld ta) := by
  intro pins s σ H Q I h
  refine wpAny_Call_Name_kw (ld_glob I hg T.gC ?_ hdb)
  refine callWith_K (h₀ := X.base) I.ok.mod.kin T.kC (thn (ha.run pos pins s σ H _ I h) ?_) he hpl
  rintro us s1 ⟨vs, H1, I1, r1, v, ev, q1⟩
  subst ev
  refine ⟨I1.kIn, ?_⟩
  obtain ⟨v', rfl, rv⟩ := vals1 r1
  show wpAny _ _ (call (.ref C) [v']) _ _ _
  have hlim := I1.nolimit
  have room : X.A.depth + 1 < recursionLimit := by
    have := hr.dp
    omega
  obtain ⟨hp, g, dr, tk, os⟩ := s1
  refine wpAny_call (err_made T I1.kIn hlim room ?_)
  intro h' tk' e d M
  show MkP X pins σ Q (.ref e) ⟨h', g, dr, tk', os⟩
  obtain ⟨oe, fv, hoe, hc, hd, hdat, h1⟩ := M.obj
  obtain ⟨G', g1, g2⟩ := restrict h' fun b => decide (b ≠ e)
  have gk : ∀ b, b ≠ e → G'.get? b = h'.get? b := fun b hb => g1 b (decide_eq_true hb)
  have ge : G'.get? e = none := g2 e (by simp)
  have old : ∀ b o, hp.get? b = some o → G'.get? b = some o := fun b o q =>
    (gk b (Nat.ne_of_lt (Nat.lt_of_lt_of_le (Heap.lt_size q) M.new))).trans (M.keep b o q)
  have hns := M.ns
  have laid : ObjOk X.prog X.w (upd H1 d (.xd [(fld, v)])) G' d (.xd [(fld, v)]) :=
    ⟨_, hns.at (fun o q => (gk d M.dne).trans q), fun f => relO_one rv f⟩
  have J : Inv X pins σ (upd H1 d (.xd [(fld, v)])) ⟨G', g, dr, tk', os⟩ := I1.laid (t' := tk') old M.dbig laid
  refine ⟨e, oe, fv, ⟨G', g, dr, tk', os⟩, _, .ref C, some d, rfl, J, ?_, ge, hoe, ⟨hc, hd⟩, hdat, h1, ?_, rfl, I1.bare, raises_own T.exC T.tyC, q1 d (I1.hok.fresh M.dbig)⟩
  · intro b o q
    have q' : G'.get? b = some o := q
    by_cases hb : b = e
    · rw [hb, ge] at q'
      cases q'
    · exact (gk b hb).symm.trans q'
  · rw [upd_ne (Ne.symm M.dne)]
    exact I1.hok.fresh M.new
/-- raise x(e) -/
def tRaiseErr (C : Addr) (fld : Str) (W : WX) (ta : TA) : TS := fun _ σ H => tErr C fld ta σ H fun cls d H' => W cls d σ H'
theorem ps_raiseErr {a : Expr} {ta : TA} {W : WX} {p pos pos2 : Pos} {k : Nat} (hc : X.calm = true) (T : ErrTxt X.K X.mg C fI x fld B newId bmB) (hr : Room k X.A)
    (tk : Takes X W) (ha : PA X [a] ta) (hg : Gl X x := by rfl) (hdb : (x == ("__debug__" : Str)) = false := by decide)
    (he : starEach (a :: []) X.env = (false, eval a X.env) :: starEach [] X.env := by rfl) (hpl : (backTo pos (starEach [] X.env)).any (·.1) = false := by rfl) :
    PS X (.Raise (some (.Call (.Name x p) [a] [] pos)) none pos2) (tRaiseErr C fld W ta) := ps_raise hc tk (pmk_err T hr ha hg hdb he hpl)
/-- e.fld, e the error that the suite holds (at a; its class cls, its dict d) -/
def tErrFld (C : Addr) (fld : Str) (a : Addr) (cls : Value) (d : Option Addr) (te : TE) : TE := fun σ H Q => te σ H fun x H1 => x = .ref a ∧ cls = .ref C ∧ ∃ (dd : Addr) (v : V), d = some dd ∧
  H1 dd = some (.xd [(fld, v)]) ∧ Q v H1
theorem pe_errFld {a : Addr} {oe : Obj} {cls : Value} {d : Option Addr} {pn : List (Addr × Obj)} {e : Expr} {te : TE} {pos : Pos} (T : ErrTxt X.K X.mg C fI x fld B newId bmB)
    (hz : Zc cls d oe) (hf : ∃ vs, oe.data = .fields vs) (he : PE (X.suite a ((a, oe) :: pn)) e te)
    (hb : attributeBase e fld X.env (eval e X.env) = eval e X.env := by rfl) :
    PE (X.suite a ((a, oe) :: pn)) (.Attribute e fld pos) (tErrFld C fld a cls d te) := by
  constructor
  intro pins s σ H Q I h
  refine attr_of hb (thn (he.run pins s σ H _ I h) ?_)
  rintro u s1 ⟨y, H1, I1, ry, ey, ec, dd, v, ed, ea, q⟩
  subst ey ec ed
  obtain rfl : u = Value.ref a := ry
  obtain ⟨ha, _⟩ := I1.pin (a, oe) (List.mem_append_left _ List.mem_cons_self)
  obtain ⟨vs, hd⟩ := hf
  obtain ⟨mA, hns, hr⟩ := (show ObjOk X.prog X.w H1 s1.heap dd (.xd [(fld, v)]) from I1.hok dd _ ea)
  obtain ⟨od, ho, hl⟩ := lookIn_ns hns
  have l : List.lookup fld [(fld, v)] = some v := by simp [List.lookup]
  obtain ⟨u, hu, ru⟩ := RelO.some_of (v := v) (o := mA fld) (by rw [← l]; exact hr fld)
  have J : W.InstAt s1.heap a oe C (some od) := ⟨ha, hz.1, by unfold notCls; rw [hd] <;> rfl, by rw [hz.2]; exact ho⟩
  exact HandSPX.exc_get I1.kIn J T.ga T.gg T.exC (findObj_own T.hdC T.noN rfl (by rw [hl, hu])) (handed_of ru) ⟨v, H1, I1.tok _, ru, q⟩
/-- isinstance(e, c), e the error that the suite holds -/
def rErrIs (K : Frag) (C a : Addr) (cls : Value) (d : Option Addr) : List V → Hp → VK → Prop := fun xs H Q => ∃ (c : V) (u : Value) (b : Bool) (dd : Addr) (v : V) (fld : Str), xs = [.ref a, c] ∧ cls = .ref C ∧ d = some dd ∧
  H dd = some (.xd [(fld, v)]) ∧ ClsV c u ∧ kitOne K (.ref C) u = some b ∧ Q (.bl b) H
theorem call_errIs {a : Addr} {oe : Obj} {cls : Value} {d : Option Addr} {pn : List (Addr × Obj)} (T : ErrTxt X.K X.mg C fI x fld B newId bmB)
    (hz : Zc cls d oe) (hf : ∃ vs, oe.data = .fields vs) : CallR (X.suite a ((a, oe) :: pn)) (.builtin "isinstance") (rErrIs X.K C a cls d) := by
  intro pins s σ H xs us Q I r h
  obtain ⟨c, u, b, dd, v, fld, rfl, ec, ed, ea, k, e, q⟩ := h
  subst ec ed
  obtain ⟨u1, u2, rfl, r1, r2⟩ := vals2 r
  cases (show u1 = Value.ref a from r1)
  have e2 := k.eq r2
  subst e2
  obtain ⟨ha, _⟩ := I.pin (a, oe) (List.mem_append_left _ List.mem_cons_self)
  obtain ⟨vs, hd⟩ := hf
  obtain ⟨mA, hns, hr⟩ := (show ObjOk X.prog X.w H s.heap dd (.xd [(fld, v)]) from I.hok dd _ ea)
  obtain ⟨od, ho, hl⟩ := lookIn_ns hns
  have J : W.InstAt s.heap a oe C (some od) := ⟨ha, hz.1, by unfold notCls; rw [hd] <;> rfl, by rw [hz.2]; exact ho⟩
  have ic : (clsIn X.K C).isSome = true := by
    have h0 := T.hdC
    unfold hasDictIn at h0
    obtain ⟨cd, hc, _⟩ := any_some h0
    rw [hc]
    rfl
  exact kia_one (kitx_exc ic T.ga T.gg T.exC T.cc T.cn T.ct T.cm) I.kIn J e (fun z => nomatch z) fun tk => ⟨.bl b, H, I.tok tk, rfl, q⟩
end
end GL
namespace GL
open PySem L2 PySem.Spec PyProof.Rows
/-- a def of the text: where it stands, what its name holds, how its arguments bind -/
structure Df (K : PySem.W.Frag) (mg : Str → Option Value) (x : Str) (st : Stmt) (ps : List Str) (f : Addr) (fd : FuncData) : Prop where
  F : Fun K x x st f fd
  g : mg x = some (.ref f)
  b : Binds K fd ps []
section
variable {X : Cx}
theorem iop_mulW : OpR X (inplaceOp .Mult) (rI CMulW fun i j => .int (i * j)) := opI fun _ _ _ _ _ _ _ hc q => imul_int q hc.ok
/-- i ** j, together below 2 ^ 27 bits -/
def CPowW (i j : Int) : Prop := 0 ≤ j ∧ (Builtin.Int.intBits i : Int) * j ≤ 2 ^ 27
theorem op_powW : OpR X (binaryOp .Pow) (rI CPowW fun i j => .int (i ^ j.toNat)) := opI fun _ _ _ _ _ _ _ hc q => pow_int hc.1 hc.2 q
end
theorem tyx_lst {K : PySem.W.Frag} {H : Hp} {a : Addr} {xs : List V} (h : SqL K H a xs) : TyX K H (.ref a) (.type "list") := by
  rcases h with (h | ⟨o, h⟩) | ⟨o, its, n, h1, h2, _⟩
  · exact .base (.lst h)
  · exact .base (.frz h)
  · exact .kList h1 h2
theorem tyx_tup {K : PySem.W.Frag} {H : Hp} {a : Addr} {xs : List V} (h : SqT K H a xs) : TyX K H (.ref a) (.type "tuple") := by
  rcases h with (h | ⟨o, h⟩) | ⟨o, its, n, h1, h2, _⟩
  · exact .base (.tup h)
  · exact .fTuple h
  · exact .kTuple h1 h2
section
variable {X : Cx}
/-- xs != [], xs == [] -/
def rNeNil (K : PySem.W.Frag) : R2 := fun x y H Q => ∃ a b xs, x = .ref a ∧ y = .ref b ∧ SqL K H a xs ∧ SqL K H b [] ∧ Q (.bl (!xs.isEmpty)) H
def rEqNil (K : PySem.W.Frag) : R2 := fun x y H Q => ∃ a b xs, x = .ref a ∧ y = .ref b ∧ SqL K H a xs ∧ SqL K H b [] ∧ Q (.bl xs.isEmpty) H
theorem op_neNil (hu : X.A.units + 1 < cLine) : OpR X (compareOp .NotEq) (rNeNil X.K) := by
  intro pins s σ H x y v u Q I rx ry h
  obtain ⟨a, b, xs, rfl, rfl, ha, hb, q⟩ := h
  cases rx
  cases ry
  obtain ⟨its, rv, ⟨o, n, ho, hc, _, hd⟩, _⟩ := I.list ha
  obtain ⟨its2, rv2, ⟨o2, n2, ho2, hc2, _, hd2⟩, _⟩ := I.list hb
  cases rv2
  have l1 : s.heap.IsList a its.toArray := ⟨_, ho, hc, n, hd⟩
  have l2 : s.heap.IsList b #[] := ⟨_, ho2, hc2, n2, hd2⟩
  cases rv with
  | nil => exact SeqAt.RcNeAt.lists l1 l2 rfl (by omega) (e := fun _ => true) (fun j h => absurd h (by simp)) _ _ _ _ ⟨.bl _, H, I, rfl, q⟩
  | cons r t => exact SeqAt.RcNeAt.lists_lengths l1 l2 (by simp) (by omega) _ _ _ _ ⟨.bl _, H, I, rfl, q⟩
theorem op_eqNil (hu : X.A.units + 1 < cLine) : OpR X (compareOp .Eq) (rEqNil X.K) := by
  intro pins s σ H x y v u Q I rx ry h
  obtain ⟨a, b, xs, rfl, rfl, ha, hb, q⟩ := h
  cases rx
  cases ry
  obtain ⟨its, rv, ⟨o, n, ho, hc, _, hd⟩, _⟩ := I.list ha
  obtain ⟨its2, rv2, ⟨o2, n2, ho2, hc2, _, hd2⟩, _⟩ := I.list hb
  cases rv2
  have l1 : s.heap.IsList a its.toArray := ⟨_, ho, hc, n, hd⟩
  have l2 : s.heap.IsList b #[] := ⟨_, ho2, hc2, n2, hd2⟩
  cases rv with
  | nil => exact SeqAt.eq_listAt l1 l2 rfl (by omega) (e := fun _ => true) (fun j h => absurd h (by simp)) ⟨.bl _, H, I, rfl, q⟩
  | cons r t => exact SeqAt.eq_list_lengthsAt l1 l2 (by simp) (by omega) ⟨.bl _, H, I, rfl, q⟩
end
end GL
namespace GL
open PySem L2 PySem.Spec PyProof.Rows
section
variable {X : Cx}
def rRepR : R2 := fun x y H Q => rRep y x H Q
theorem op_repR : OpR X (binaryOp .Mult) rRepR := by
  intro pins s σ H x y v u Q I rx ry g
  obtain ⟨l, k, xs, rfl, rfl, hH, k1, k2, room, q⟩ := g
  cases ry
  obtain ⟨t, rfl⟩ := rx
  obtain ⟨z, its, n, r, hl, e⟩ := I.lstM hH
  have room' : its.toArray.size * k.toNat ≤ sizeLine := by simpa [List.size_toArray, ← hl] using room
  have cap : ¬ its.toArray.size * k.toNat > (2 ^ 63 - 1) / 8 := Nat.not_lt.mpr (Nat.le_trans room' (by decide))
  have fit : ¬ (!Builtin.List.listFitsIndex k) = true := by simp [fitsIndex_both k1 k2]
  have long : ¬ Builtin.List.listTooLong (its.toArray.size * k.toNat) = true := by rw [notLongL room']; exact Bool.false_ne_true
  have new : (List.replicate (if its.toArray.isEmpty = true then 0 else k.toNat) its.toArray).foldl (· ++ ·) #[] = (List.replicate k.toNat its).flatten.toArray :=
    (size_rep its _).trans (by cases its <;> simp)
  have ans := AutoListH.list___mul___list_int_3 l its.toArray n k t fit cap long
  have road := int___mul___int_list k t l its.toArray n
  have ty : s.TypeIs (.ref l) "list" := ⟨_, e, rfl⟩
  apply lm_binaryOp_repeat_right (T := "list") (U := "int") (by decide) (fun w => typeIs_int w k t) ty F.fills_int_mul noFill_list_mul F.slot_int_mul lm_noRepeat_int repeat_list F.slot_int_index.lookup
  apply call_meets F.slot_int_mul (typeIs_int s k t) F.entry_int_mul (F.args_int_mul_2 _ _) road
  refine ⟨e, rfl, ty, ?_⟩
  apply call_meets F.slot_list_mul ty F.entry_list_mul (F.args_list_mul_2 _ _) ans
  refine ⟨e, ?_⟩
  rw [new]
  have len : (List.replicate k.toNat xs).flatten.length ≤ sizeLine := by
    rw [lm_len_rep_flat, Nat.mul_comm]; exact room
  exact ⟨.ref _, _, I.lnew (t' := s.toks) (r.rep k.toNat) len, rfl, q _ I.fresh⟩
end
end GL
namespace GL
open PySem L2 PySem.Spec PyProof.Rows
/-- shown within the line: its depth and its bulk -/
structure Sw (d : PyData) (k b : Nat) : Prop where
  sh : d.showable = true
  lf : d.leavesShort 1921 = true
  dp : d.depth ≤ k
  bk : d.bulk ≤ b
structure SwAll (ds : List PyData) (k b : Nat) : Prop where
  sh : PyData.showableAll ds = true
  lf : PyData.leavesShortAll 1921 ds = true
  dp : PyData.depthAll ds ≤ k
  bk : PyData.bulkAll ds ≤ b
theorem Sw.none : Sw .none 0 0 := ⟨rfl, rfl, Nat.le_refl _, Nat.le_refl _⟩
theorem Sw.bool (b : Bool) : Sw (.bool b) 0 0 := ⟨rfl, rfl, Nat.le_refl _, Nat.le_refl _⟩
theorem Sw.int {i : Int} (h : i.natAbs < 2 ^ 1900) : Sw (.int i) 0 0 := by
  have l : i.natAbs.log2 < 1920 := Nat.lt_of_lt_of_le (PySem.Flt.log2_lt_of (by decide) h) (by decide)
  refine ⟨?_, ?_, Nat.le_refl _, Nat.le_refl _⟩
  · simpa only [PyData.showable, decide_eq_true_eq] using l
  · exact decide_eq_true (int_text_len_1921 l)
theorem Sw.str {x : Str} (h : (x.cps.toList.all fun c => decide (c < 16 ^ 8)) = true) : Sw (.str x) 0 x.cps.size := ⟨rfl, h, Nat.le_refl _, Nat.le_refl _⟩
theorem SwAll.nil : SwAll [] 0 0 := ⟨rfl, rfl, Nat.le_refl _, Nat.le_refl _⟩
theorem SwAll.cons {d : PyData} {ds : List PyData} {k b k' b' : Nat} (h : Sw d k b) (t : SwAll ds k' b') : SwAll (d :: ds) (max k k') (b + 1 + b') := by
  refine ⟨?_, ?_, ?_, ?_⟩
  · simp only [PyData.showableAll, h.sh, t.sh, Bool.and_self]
  · simp only [PyData.leavesShortAll, h.lf, t.lf, Bool.and_self]
  · have h1 := h.dp
    have h2 := t.dp
    simp only [PyData.depthAll]
    omega
  · have h1 := h.bk
    have h2 := t.bk
    simp only [PyData.bulkAll]
    omega
theorem Sw.tuple {ds : List PyData} {k b : Nat} (t : SwAll ds k b) : Sw (.tuple ds) (k + 1) b := by
  refine ⟨?_, ?_, ?_, ?_⟩
  · simpa only [PyData.showable] using t.sh
  · simpa only [PyData.leavesShort] using t.lf
  · have h := t.dp
    simp only [PyData.depth]
    omega
  · simpa only [PyData.bulk] using t.bk
theorem Sw.list {ds : List PyData} {k b : Nat} (t : SwAll ds k b) : Sw (.list ds) (k + 1) b := by
  refine ⟨?_, ?_, ?_, ?_⟩
  · simpa only [PyData.showable] using t.sh
  · simpa only [PyData.leavesShort] using t.lf
  · have h := t.dp
    simp only [PyData.depth]
    omega
  · simpa only [PyData.bulk] using t.bk
theorem Sw.up {d : PyData} {k b k' b' : Nat} (h : Sw d k b) (hk : k ≤ k') (hb : b ≤ b') : Sw d k' b' := ⟨h.sh, h.lf, Nat.le_trans h.dp hk, Nat.le_trans h.bk hb⟩
theorem Sw.len {d : PyData} {k b : Nat} (h : Sw d k b) (hb : b ≤ 5000) : d.shown.length ≤ sizeLine := by
  have e := PyData.shown_le_bulk 1921 (by decide) d h.lf
  have e2 := h.bk
  have e3 : (1921 + 2) * d.bulk ≤ (1921 + 2) * 5000 := Nat.mul_le_mul_left _ (Nat.le_trans e2 hb)
  rw [sizeLine_eq]
  omega
/-- a value that repr shows -/
def Good (K : PySem.W.Frag) (H : Hp) (v : V) : Prop := ∃ d k b, ShD K H v d ∧ Sw d k b ∧ k ≤ 60 ∧ b ≤ 5000
end GL
namespace NM
open PySem
theorem natAbs_pow (b : Int) : ∀ n : Nat, (b ^ n).natAbs = b.natAbs ^ n
  | 0 => by simp
  | n + 1 => by rw [Int.pow_succ, Int.natAbs_mul, natAbs_pow b n, Nat.pow_succ]
/-- a power of a base up to 36 is small in bits -/
theorem pow_small {b : Int} (h0 : 0 ≤ b) (h : b ≤ 36) (n : Nat) : (b ^ n).natAbs < 2 ^ (6 * n + 1) := by
  rw [natAbs_pow]
  have h1 : b.natAbs ≤ 2 ^ 6 := by omega
  have h2 : b.natAbs ^ n ≤ (2 ^ 6) ^ n := Nat.pow_le_pow_left h1 n
  rw [← Nat.pow_mul] at h2
  calc b.natAbs ^ n ≤ 2 ^ (6 * n) := h2
    _ < 2 ^ (6 * n + 1) := Nat.pow_lt_pow_right (by decide) (by omega)
/-- the bits of a natural number -/
theorem lt_bits (n : Nat) : n < 2 ^ Builtin.Int.intBits (n : Int) := by
  unfold Builtin.Int.intBits
  by_cases h : n = 0
  · subst h
    decide
  · have : ((n : Int) == 0) = false := by simp; omega
    rw [this, if_neg Bool.false_ne_true]
    show n < 2 ^ ((n : Int).natAbs.log2 + 1)
    rw [Int.natAbs_natCast]
    exact Nat.lt_log2_self
theorem bits_le {n m : Nat} (h : n < 2 ^ m) : Builtin.Int.intBits (n : Int) ≤ m := by
  unfold Builtin.Int.intBits
  split
  · omega
  · rename_i h0
    have hn : n ≠ 0 := by
      intro z
      subst z
      exact h0 rfl
    show ((n : Int).natAbs.log2 + 1) ≤ m
    rw [Int.natAbs_natCast]
    exact Nat.succ_le_of_lt ((Nat.log2_lt hn).mpr h)
/-- squaring step: from c >> (k + 1) to c >> k -/
theorem shift_step (c k : Nat) : c / 2 ^ k = 2 * (c / 2 ^ (k + 1)) + c / 2 ^ k % 2 := by
  have : c / 2 ^ (k + 1) = c / 2 ^ k / 2 := by rw [Nat.pow_succ, Nat.div_div_eq_div_mul]
  omega
theorem pow_two_mul (b : Int) (n : Nat) : b ^ n * b ^ n = b ^ (2 * n) := by
  rw [← Int.pow_add]
  congr 1
  omega
theorem sq_succ (b : Int) (m : Nat) : b ^ 2 ^ m * b ^ 2 ^ m = b ^ 2 ^ (m + 1) := by
  rw [← Int.pow_add, Nat.pow_succ]
  congr 1
  omega
theorem pow_pos {b : Int} (h : 2 ≤ b) (e : Nat) : 0 < b ^ e := Int.pow_pos (by omega)
/-- n is s times b ^ (f * 2 ^ J), and s no more divisible by b ^ 2 ^ J -/
structure Left (b n s : Int) (f J : Nat) : Prop where
  eq : n = s * b ^ (f * 2 ^ J)
  no : s % b ^ 2 ^ J ≠ 0
theorem Left.ne {b n s : Int} {f J : Nat} (L : Left b n s f J) : s ≠ 0 := fun z => L.no (by rw [z]; exact Int.zero_emod _)
theorem Left.keep {b n s : Int} {f J : Nat} (L : Left b n s f (J + 1)) (h : s % b ^ 2 ^ J ≠ 0) : Left b n s (f * 2) J := by
  refine ⟨?_, h⟩
  have e : f * 2 * 2 ^ J = f * 2 ^ (J + 1) := by rw [Nat.pow_succ, Nat.mul_assoc, Nat.mul_comm 2]
  rw [e]
  exact L.eq
theorem Left.take {b n s : Int} {f J : Nat} (hb : 2 ≤ b) (L : Left b n s f (J + 1)) (h : s % b ^ 2 ^ J = 0) : Left b n (s / b ^ 2 ^ J) (f * 2 + 1) J := by
  have hp := pow_pos hb (2 ^ J)
  have hs : s = s / b ^ 2 ^ J * b ^ 2 ^ J := (Int.ediv_mul_cancel (Int.dvd_of_emod_eq_zero h)).symm
  constructor
  · have e : (f * 2 + 1) * 2 ^ J = 2 ^ J + f * 2 ^ (J + 1) := by
      rw [Nat.add_mul, Nat.one_mul, Nat.pow_succ, Nat.mul_assoc, Nat.mul_comm 2, Nat.add_comm]
    rw [e, Int.pow_add, ← Int.mul_assoc, ← hs]
    exact L.eq
  · intro z
    apply L.no
    have z2 : s / b ^ 2 ^ J = s / b ^ 2 ^ J / b ^ 2 ^ J * b ^ 2 ^ J := (Int.ediv_mul_cancel (Int.dvd_of_emod_eq_zero z)).symm
    rw [← sq_succ]
    apply Int.emod_eq_zero_of_dvd
    refine ⟨s / b ^ 2 ^ J / b ^ 2 ^ J, ?_⟩
    calc s = s / b ^ 2 ^ J * b ^ 2 ^ J := hs
      _ = s / b ^ 2 ^ J / b ^ 2 ^ J * b ^ 2 ^ J * b ^ 2 ^ J := by rw [← z2]
      _ = _ := by rw [Int.mul_comm, Int.mul_comm (s / b ^ 2 ^ J / b ^ 2 ^ J), Int.mul_assoc]
/-- the form of a number is one: what is left, and how many factors -/
theorem one_form {b n s t : Int} {f g : Nat} (hb : 2 ≤ b) (h1 : n = s * b ^ f) (h2 : s % b ≠ 0) (h3 : n = t * b ^ g) (h4 : t % b ≠ 0) : s = t ∧ f = g := by
  have key : ∀ (s t : Int) (f d : Nat), s * b ^ f = t * b ^ (f + d) → s % b ≠ 0 → d = 0 ∧ s = t := by
    intro s t f d e hs
    rw [Int.pow_add, Int.mul_comm (b ^ f), ← Int.mul_assoc] at e
    have e2 : s = t * b ^ d := Int.eq_of_mul_eq_mul_right (by have := pow_pos hb f; omega) e
    cases d with
    | zero => exact ⟨rfl, by simpa using e2⟩
    | succ d =>
      exfalso
      apply hs
      rw [e2, Int.pow_succ, ← Int.mul_assoc]
      exact Int.mul_emod_left _ _
  rcases Nat.le_total f g with h | h
  · obtain ⟨d, rfl⟩ := Nat.exists_eq_add_of_le h
    obtain ⟨h5, h6⟩ := key s t f d (h1.symm.trans h3) h2
    subst h5
    exact ⟨h6, rfl⟩
  · obtain ⟨d, rfl⟩ := Nat.exists_eq_add_of_le h
    obtain ⟨h5, h6⟩ := key t s g d (h3.symm.trans h1) h4
    subst h5
    exact ⟨h6.symm, rfl⟩
end NM
namespace GL
open PySem L2 PySem.Spec PyProof.Rows
/-- an exception of the body that has been noted, while the clauses are asked: sI the state without it, s' and h3 the one with it -/
structure Air (X : Cx) (pins : List (Addr × Obj)) (σ : L2.St) (H : Hp) (cls : Value) (d : Option Addr) (a : Addr) (B : Heap) (sI s' : Shared) (h3 : Heap) : Prop where
  ok : X.Ok
  st : X.stack = X.env :: X.outer
  fr : X.env.frame = some X.env.locals
  inv : Inv X pins σ H sI
  ground : ∀ b o, sI.heap.get? b = some o → b ∉ frs X.stack → B.get? b = some o
  up : sI.heap.UpToSlots h3
  fly : HandSPX.FlyingZ B (X.env :: X.outer) a (Zc cls d) h3
  na : H a = none
  os : s'.os = sI.os
  ag : AllBare s'.gens
section
variable {X : Cx} {pins : List (Addr × Obj)} {σ : L2.St} {H : Hp} {cls : Value} {d : Option Addr} {a : Addr} {B : Heap} {sI s' : Shared} {h3 : Heap}
/-- the same a step on: the flight renewed -/
theorem Air.on (A : Air X pins σ H cls d a B sI s' h3) {h4 : Heap} (fl : HandSPX.FlyingZ B (X.env :: X.outer) a (Zc cls d) h4) (up : h3.UpToSlots h4) : Air X pins σ H cls d a B sI s' h4 :=
  { A with up := A.up.trans up, fly := fl }
theorem Air.now (A : Air X pins σ H cls d a B sI s' h3) : Inv X pins σ H { s' with heap := h3 } :=
  A.inv.landed (s' := { s' with heap := h3 }) A.ground A.fly.1 A.up A.os A.ag
/-- the error's object: neither the locals nor a frame's -/
theorem Air.apart (A : Air X pins σ H cls d a B sI s' h3) : a ≠ X.env.locals ∧ a ∉ X.fs := by
  obtain ⟨oe, vs, he, _, hd⟩ := A.fly.there
  have none_of_them : ∀ e ∈ X.env :: X.outer, ∀ L, e.frame = some L → a ≠ L := by
    intro e he' L hL z
    obtain ⟨_, o, e1, nf⟩ := A.fly.2.2.1.mem (List.mem_filterMap.mpr ⟨e, he', by rw [hL, ← z]⟩)
    rw [he] at e1
    cases e1
    exact nf _ hd
  refine ⟨none_of_them _ List.mem_cons_self _ A.fr, fun hm => ?_⟩
  obtain ⟨e, he', q⟩ := List.mem_filterMap.mp hm
  exact none_of_them e (List.mem_cons_of_mem _ he') a q rfl
/-- .. as the suites of clauses see it -/
theorem Air.inside (A : Air X pins σ H cls d a B sI s' h3) : ∃ oe, Zc cls d oe ∧ (∃ vs, oe.data = .fields vs) ∧ h3.get? a = some oe ∧ Inv (X.suite a ((a, oe) :: (X.pn ++ pins))) [] σ H { s' with heap := h3 } := by
  obtain ⟨oe, vs, he, hz, hd⟩ := A.fly.there
  exact ⟨oe, hz, ⟨vs, hd⟩, he, A.now.suite he hd A.na A.apart.1 A.apart.2⟩
/-- no clause is left: it goes on -/
theorem Air.passes {Wout : WX} {D : Ends} (A : Air X pins σ H cls d a B sI s' h3) (tk : Takes X Wout) (w : Wout cls d σ H) :
    wpAny (model X.prog X.w) X.A (handleBy (.ref a) X.env []) (SP X pins D) X.xe { s' with heap := h3 } := by
  have up : wpAny (model X.prog X.w) X.A (setFlight (.ref a) X.env.frame) (fun _ s4 => wpAny (model X.prog X.w) X.A (throw (.ref a) : Sem Flow) (SP X pins D) X.xe s4) X.xe { s' with heap := h3 } := by
    rw [A.fr]
    refine HandSPX.setFlight_upZ A.fly fun h4 held up4 => wpAny_throw (tk _ _ ?_)
    exact ⟨a, B, sI, pins, σ, H, cls, d, rfl, A.inv, A.ground, A.up.trans up4, .inr (.inr (by rw [A.st]; exact held)), A.na, A.os, A.ag, w⟩
  refine wpAny_handleBy_nil ?_
  obtain ⟨_, _, _, oe, vs, T, oT, ts, he, _, hd, h1, _⟩ := id A.fly
  unfold PySem.passOn
  refine wpAny_bind (wpAny_field he hd h1 ?_)
  rw [if_neg (by simp)]
  first
    | exact wpAny_bind (wpAny_pure (wpAny_bind up))
    | exact wpAny_bind up
/-- one clause is asked -/
theorem Air.asks {x n : Str} {c : Value} {i : Nat} {suite : List Stmt} {b₀ : Stmt} {np pos : Pos} {hds : List ExceptHandler} {ts : Addr → Value → Option Addr → TS} {W : WX} {D : Ends} (A : Air X pins σ H cls d a B sI s' h3)
    (hN : X.N.Nodup) (hi : X.N[i]? = some n) (hln : X.env.kindOf n = some .local) (hc : Names X x c)
    (hsu : ∀ (a : Addr) (oe : Obj) (cls : Value) (d : Option Addr) (pn : List (Addr × Obj)), Zc cls d oe → (∃ vs, oe.data = .fields vs) → PSs (X.suite a ((a, oe) :: pn)) (b₀ :: suite) (ts a cls d))
    (w : wAs X.K c i ts W D cls d σ H) (next : W cls d σ H → wpAny (model X.prog X.w) X.A (handleBy (.ref a) X.env hds) (SP X pins D) X.xe { s' with heap := h3 }) :
    wpAny (model X.prog X.w) X.A (handleBy (.ref a) X.env (.ExceptHandler (some (.Name x np)) (some n) (b₀ :: suite) pos :: hds)) (SP X pins D) X.xe { s' with heap := h3 } := by
  obtain ⟨b, hb, yes, no⟩ := w
  obtain ⟨oe, hz, hf, he, S⟩ := A.inside
  refine wpAny_handleBy_cons (codeAny_handlers_test ?_) (by intro q; cases q)
  -- the class's name is read
  have read : ∀ {Q : Value → Shared → Prop} {E : Value → Shared → Prop}, Q c { s' with heap := h3 } → wpAny (model X.prog X.w) (X.A.mark (some (.ref a))) (eval (.Name x np) X.env) Q E { s' with heap := h3 } := fun q => by
    obtain ⟨g, db, m | ⟨m, v, nn⟩⟩ := hc
    · exact ld_glob (X := X.suite a ((a, oe) :: (X.pn ++ pins))) S g m q db
    · exact ld_blt (X := X.suite a ((a, oe) :: (X.pn ++ pins))) S g m v q nn db
  have kind : PySem.W.Looks (model X.prog X.w) h3 (typeOf (.ref a)) cls := fun _ _ _ _ k q => wpAny_typeOf_ref (k _ _ he) (by rw [hz.1]; exact q)
  refine read ((PySem.W.exm_one (M := model X.prog X.w) A.now.kIn kind hb).here ?_)
  cases b with
  | false => exact next (no rfl)
  | true =>
    refine codeAny_handlers_suite_as ?_
    refine HandSPX.lands_againZ A.fly fun h4 fl4 up4 => ?_
    have A4 := A.on fl4 up4
    obtain ⟨oe4, hz4, hf4, _, S4⟩ := A4.inside
    refine store_ok (X := X.suite a ((a, oe4) :: (X.pn ++ pins))) (v := .ref a) S4 hN hi (.inl hln) rfl (fun s5 S5 => ?_) (.inr hln)
    refine wpAny_mono ((hsu a oe4 cls d (X.pn ++ pins) hz4 hf4).run [] s5 _ H _ S5 (yes rfl a A.na)) (fun f s6 end_ => ?_) (fun _ _ z => False.elim z)
    -- the name goes
    have drop : ∀ {σ6 : L2.St} {H6 : Hp} {Q : Shared → Prop}, Inv (X.suite a ((a, oe4) :: (X.pn ++ pins))) [] σ6 H6 s6 → (∀ s7, Inv X pins (σ6.set i none) H6 s7 → Q s7) →
        wpAny (model X.prog X.w) X.A (do bindName X.env n .none; unbindBehindTheSuite X.env n pos) (fun _ s7 => Q s7) X.xe s6 := fun S6 q => gone_ok (S6.unsuite A.ok) hN hi hln q
    match f, end_ with
    | .next, ⟨_, _, S6, q⟩ => exact drop S6 fun _ J => ⟨_, _, J, q⟩
    | .brk, ⟨_, _, S6, q⟩ => exact drop S6 fun _ J => ⟨_, _, J, q⟩
    | .cont, ⟨_, _, S6, q⟩ => exact drop S6 fun _ J => ⟨_, _, J, q⟩
    | .ret u, ⟨_, _, _, S6, r, q⟩ => exact drop S6 fun _ J => ⟨_, _, _, J, r, q⟩
end
/-- what the clauses wish of an exception, each behind the one before -/
def wNamed (K : PySem.W.Frag) (Wout : WX) (D : Ends) : List (Value × Nat × (Addr → Value → Option Addr → TS)) → WX
  | [] => Wout
  | (c, i, ts) :: r => wAs K c i ts (wNamed K Wout D r) D
/-- the clauses and their readings -/
inductive Named (X : Cx) : List ExceptHandler → List (Value × Nat × (Addr → Value → Option Addr → TS)) → Prop
  | nil : Named X [] []
  | cons {x n : Str} {c : Value} {i : Nat} {ts : Addr → Value → Option Addr → TS} {b₀ : Stmt} {suite : List Stmt} {np pos : Pos} {hds : List ExceptHandler} {l : List (Value × Nat × (Addr → Value → Option Addr → TS))}
      (hi : X.N[i]? = some n) (hln : X.env.kindOf n = some .local) (hc : Names X x c)
      (hsu : ∀ (a : Addr) (oe : Obj) (cls : Value) (d : Option Addr) (pn : List (Addr × Obj)), Zc cls d oe → (∃ vs, oe.data = .fields vs) → PSs (X.suite a ((a, oe) :: pn)) (b₀ :: suite) (ts a cls d)) (r : Named X hds l) :
      Named X (.ExceptHandler (some (.Name x np)) (some n) (b₀ :: suite) pos :: hds) ((c, i, ts) :: l)
theorem Air.all {X : Cx} {pins : List (Addr × Obj)} {σ : L2.St} {H : Hp} {cls : Value} {d : Option Addr} {a : Addr} {B : Heap} {sI s' : Shared} {h3 : Heap} {Wout : WX} {D : Ends} (A : Air X pins σ H cls d a B sI s' h3) (hN : X.N.Nodup) (tk : Takes X Wout) :
    ∀ {hds : List ExceptHandler} {l : List (Value × Nat × (Addr → Value → Option Addr → TS))}, Named X hds l → wNamed X.K Wout D l cls d σ H → wpAny (model X.prog X.w) X.A (handleBy (.ref a) X.env hds) (SP X pins D) X.xe { s' with heap := h3 }
  | _, _, .nil, w => A.passes tk w
  | _, _, .cons hi hln hc hsu r, w => A.asks hN hi hln hc hsu w fun w' => Air.all A hN tk r w'
/-- try: .. except x as n: .. except y as m: .. -/
theorem ps_try_named {X : Cx} {body : List Stmt} {h₀ : ExceptHandler} {hds : List ExceptHandler} {l : List (Value × Nat × (Addr → Value → Option Addr → TS))} {pos : Pos} {tb : WX → TS} {Wout : WX}
    (hs : X.stack = X.env :: X.outer) (hf : X.env.frame = some X.env.locals) (hN : X.N.Nodup) (tk : Takes X Wout)
    (hb : ∀ (W : WX) (pn : List (Addr × Obj)) (xe : Value → Shared → Prop), Takes (X.tr pn xe) W → PassesOwn (model X.prog X.w) X.A X.env xe → PSs (X.tr pn xe) body (tb W)) (hh : Named X (h₀ :: hds) l) :
    PS X (.Try body (h₀ :: hds) [] [] pos) (fun D σ H => tb (wNamed X.K Wout D l) D σ H) := by
  constructor
  intro pins s σ H D I h
  have ok := I.ok
  refine wpAny_Try_except ?_
  refine wpAny_mono ((hb (wNamed X.K Wout D l) (X.pn ++ pins) _ (fun u s' x => ?_) PassesOwn.looking).run [] s σ H D (I.toTry _) h) (fun f s1 e => ?_) (fun _ _ z => z)
  · obtain ⟨a, B, sI, pins', σ', H', cls, d, rfl, J, nb, up, sky, na, os, ag, w⟩ := x
    have sky' : Sky B (X.env :: X.outer) a (Zc cls d) X.env.locals s'.heap := by rw [← hs]; exact sky
    refine Sky.land Zc.steady (by rw [ok.frames, hs]) hf sky' fun h3 fl up3 => ?_
    exact Air.all ⟨ok, hs, hf, J.ofTry ok, nb, up.trans up3, fl, na, os, ag⟩ hN tk hh w
  · match f, e with
    | .next, ⟨_, _, J, q⟩ => exact wpAny_execs_nil ⟨_, _, J.ofTry ok, q⟩
    | .brk, ⟨_, _, J, q⟩ => exact ⟨_, _, J.ofTry ok, q⟩
    | .cont, ⟨_, _, J, q⟩ => exact ⟨_, _, J.ofTry ok, q⟩
    | .ret u, ⟨_, _, _, J, r, q⟩ => exact ⟨_, _, _, J.ofTry ok, r, q⟩
end GL
namespace GL
open PySem L2 PySem.Spec PyProof.Rows
theorem wpAny_Call_Sub {M : Model} {A : Around} {s : Shared} {E : Value → Shared → Prop} {env : Env} {o i : Expr} {p pos : Pos} {args : List Expr} {keywords : List Keyword} {Q : Value → Shared → Prop}
    (h : wpAny M A (eval (.Subscript o i p) env) (fun f s₁ => wpAny M A (callWith pos f [] (backTo pos (starEach args env)) (backToKw pos (keywordEach keywords env))) Q E s₁) E s) :
    wpAny M A (eval (.Call (.Subscript o i p) args keywords pos) env) Q E s := by
  show wpAny M A (do callWith pos (← eval (.Subscript o i p) env) [] (backTo pos (starEach args env)) (backToKw pos (keywordEach keywords env))) Q E s
  exact wpAny_bind h
/-- f is a def that keeps sp, and may be called here; E: what is wished of its exceptions, by the slots -/
def Callee (X : Cx) (f : Addr) (sp : Sp) (E : L2.St → XK) : Prop := PySem.W.keepIn X.K (.ref f) = true ∧ ∃ (cx : CXT) (k : Nat) (fd : FuncData) (ps : List Str), FnOk X.prog X.w X.K X.mg X.base cx k f fd ps sp ∧ Room k X.A ∧ Binds X.K fd ps [] ∧ ∀ σ, PassesAt cx X σ (E σ)
theorem Callee.of {X : Cx} {f : Addr} {sp : Sp} {E : L2.St → XK} {cx : CXT} {k : Nat} {fd : FuncData} {ps : List Str} (hk : PySem.W.keepIn X.K (.ref f) = true) (F : FnOk X.prog X.w X.K X.mg X.base cx k f fd ps sp) (hr : Room k X.A) (hb : Binds X.K fd ps []) (hx : ∀ σ, PassesAt cx X σ (E σ)) : Callee X f sp E :=
  ⟨hk, cx, k, fd, ps, F, hr, hb, hx⟩
end GL
namespace DL
open PySem L2 PySem.Spec PyProof.Rows
/-- data: what a value is, with all that hangs on it; an instance by its class and its attributes -/
inductive D where
  | non
  | bl (b : Bool)
  | int (i : Int)
  | str (x : Str)
  | tup (xs : List D)
  | lst (xs : List D)
  /-- the law's own argument: it is only read -/
  | scr (ns : List Int)
  | dic (ks : List Key) (vs : List D)
  | obj (C : Addr) (ns : List Str) (vs : List D)
  deriving Inhabited
theorem seqT_same {K : PySem.W.Frag} {H H' : Hp} {a : Addr} {xs : List V} (e : Same H H') (h : SqT K H a xs) : SqT K H' a xs := by
  rcases h with (h | ⟨o, h⟩) | h
  · exact .inl (.inl (e _ _ h))
  · exact .inl (.inr ⟨o, e _ _ h⟩)
  · exact .inr h
theorem same_upd' {H H' : Hp} {p : Addr} {o : HO} (s : Same H H') (h : H p = none) : Same H (upd H' p o) := fun b u e => by
  rw [upd_ne (fun z => by rw [z, h] at e; cases e)]
  exact s b u e
mutual
/-- the value v stands for the data d in H -/
inductive Rep (K : PySem.W.Frag) (H : Hp) : V → D → Prop
  | non : Rep K H .non .non
  | bl (b : Bool) : Rep K H (.bl b) (.bl b)
  | int (i : Int) : Rep K H (.int i) (.int i)
  | str (x : Str) : Rep K H (.str x) (.str x)
  | tup {a : Addr} {vs : List V} {ds : List D} : SqT K H a vs → RepAll K H vs ds → Rep K H (.ref a) (.tup ds)
  | lst {a : Addr} {vs : List V} {ds : List D} : H a = some (.lst vs) → RepAll K H vs ds → Rep K H (.ref a) (.lst ds)
  | scr {a : Addr} {ns : List Int} : SqL K H a (ns.map V.int) → Rep K H (.ref a) (.scr ns)
  | dic {a : Addr} {kvs : List (Key × V)} {ks : List Key} {ds : List D} : H a = some (.dK kvs) → kvs.map (·.1) = ks → RepAll K H (kvs.map (·.2)) ds → Rep K H (.ref a) (.dic ks ds)
  | obj {a C dx : Addr} {fs : List (Str × V)} {ns : List Str} {ds : List D} : H a = some (.ins C dx fs) → fs.map (·.1) = ns → RepAll K H (fs.map (·.2)) ds → Rep K H (.ref a) (.obj C ns ds)
inductive RepAll (K : PySem.W.Frag) (H : Hp) : List V → List D → Prop
  | nil : RepAll K H [] []
  | cons {v : V} {vs : List V} {d : D} {ds : List D} : Rep K H v d → RepAll K H vs ds → RepAll K H (v :: vs) (d :: ds)
end
theorem Rep.same {K : PySem.W.Frag} {H H' : Hp} (e : Same H H') {v : V} {d : D} (h : Rep K H v d) : Rep K H' v d := by
  induction h using Rep.rec (motive_2 := fun vs ds _ => RepAll K H' vs ds) with
  | non => exact .non
  | bl b => exact .bl b
  | int i => exact .int i
  | str x => exact .str x
  | tup h _ ih => exact .tup (seqT_same e h) ih
  | lst h _ ih => exact .lst (e _ _ h) ih
  | scr h => exact .scr (e.seq h)
  | dic h k _ ih => exact .dic (e _ _ h) k ih
  | obj h k _ ih => exact .obj (e _ _ h) k ih
  | nil => exact .nil
  | cons _ _ h1 h2 => exact .cons h1 h2
theorem RepAll.same {K : PySem.W.Frag} {H H' : Hp} (e : Same H H') : ∀ {vs : List V} {ds : List D}, RepAll K H vs ds → RepAll K H' vs ds
  | _, _, .nil => .nil
  | _, _, .cons h t => .cons (h.same e) (RepAll.same e t)
section
variable {K : PySem.W.Frag} {H : Hp}
theorem RepAll.len : ∀ {vs : List V} {ds : List D}, RepAll K H vs ds → vs.length = ds.length
  | _, _, .nil => rfl
  | _, _, .cons _ t => congrArg Nat.succ t.len
theorem RepAll.app : ∀ {vs ws : List V} {ds es : List D}, RepAll K H vs ds → RepAll K H ws es → RepAll K H (vs ++ ws) (ds ++ es)
  | _, _, _, _, .nil, s => s
  | _, _, _, _, .cons r t, s => .cons r (t.app s)
theorem RepAll.get : ∀ {vs : List V} {ds : List D} {i : Nat} {d : D}, RepAll K H vs ds → ds[i]? = some d → ∃ v, vs[i]? = some v ∧ Rep K H v d
  | _, _, _, _, .nil, e => by simp at e
  | _, _, 0, _, .cons r _, e => by simp at e; subst e; exact ⟨_, rfl, r⟩
  | _, _, i + 1, d, .cons _ t, e => by
    obtain ⟨v, h1, h2⟩ := t.get (i := i) (d := d) (by simpa using e)
    exact ⟨v, by simpa using h1, h2⟩
theorem RepAll.take (n : Nat) : ∀ {vs : List V} {ds : List D}, RepAll K H vs ds → RepAll K H (vs.take n) (ds.take n)
  | _, _, .nil => by simp; exact .nil
  | _, _, .cons r t => by
    cases n with
    | zero => simp; exact .nil
    | succ n => simp only [List.take_succ_cons]; exact .cons r (t.take n)
theorem RepAll.drop : ∀ (n : Nat) {vs : List V} {ds : List D}, RepAll K H vs ds → RepAll K H (vs.drop n) (ds.drop n)
  | 0, _, _, h => h
  | n + 1, _, _, .nil => by simp; exact .nil
  | n + 1, _, _, .cons _ t => by simp only [List.drop_succ_cons]; exact t.drop n
theorem RepAll.set {v : V} {d : D} (h : Rep K H v d) : ∀ {vs : List V} {ds : List D} (i : Nat), RepAll K H vs ds → RepAll K H (vs.set i v) (ds.set i d)
  | _, _, _, .nil => .nil
  | _, _, 0, .cons _ t => .cons h t
  | _, _, i + 1, .cons q t => .cons q (t.set h i)
theorem RepAll.rev : ∀ {vs : List V} {ds : List D}, RepAll K H vs ds → RepAll K H vs.reverse ds.reverse
  | _, _, .nil => .nil
  | _, _, .cons r t => by simp only [List.reverse_cons]; exact t.rev.app (.cons r .nil)
theorem RepAll.ints : ∀ (ns : List Int), RepAll K H (ns.map V.int) (ns.map D.int)
  | [] => .nil
  | n :: ns => .cons (.int n) (RepAll.ints ns)
end
structure Step (H H0 H' H0' : Hp) : Prop where
  big : Same H H'
  small : Same H0 H0'
  sub : Same H0' H'
  apart : ∀ a o, H a = some o → H0 a = none → H0' a = none
theorem Step.refl {H H0 : Hp} (s : Same H0 H) : Step H H0 H H0 := ⟨Same.refl _, Same.refl _, s, fun _ _ _ e => e⟩
theorem Step.trans {A A0 B B0 C C0 : Hp} (h : Step A A0 B B0) (g : Step B B0 C C0) : Step A A0 C C0 :=
  ⟨Same.trans h.big g.big, Same.trans h.small g.small, g.sub, fun a o e n => g.apart a o (h.big a o e) (h.apart a o e n)⟩
theorem none_sub {H H0 : Hp} (s : Same H0 H) {p : Addr} (h : H p = none) : H0 p = none := by
  cases q : H0 p with
  | none => rfl
  | some o => rw [s p o q] at h; cases h
theorem same_upd {H : Hp} {p : Addr} {o : HO} (h : H p = none) : Same H (upd H p o) := same_upd' (Same.refl _) h
theorem same_both {H0 H : Hp} {p : Addr} {o : HO} (s : Same H0 H) : Same (upd H0 p o) (upd H p o) := fun b u e => by
  by_cases hb : b = p
  · subst hb; rw [upd_same] at e ⊢; exact e
  · rw [upd_ne hb] at e ⊢; exact s b u e
/-- a new object, shared -/
theorem Step.new {H H0 : Hp} {p : Addr} {o : HO} (s : Same H0 H) (h : H p = none) : Step H H0 (upd H p o) (upd H0 p o) :=
  ⟨same_upd h, same_upd (none_sub s h), same_both s, fun a u e n => by
    by_cases hb : a = p
    · subst hb; rw [h] at e; cases e
    · rw [upd_ne hb]; exact n⟩
/-- a new object, not shared -/
theorem Step.own {H H0 : Hp} {p : Addr} {o : HO} (s : Same H0 H) (h : H p = none) : Step H H0 (upd H p o) H0 :=
  ⟨same_upd h, Same.refl _, Same.trans s (same_upd h), fun _ _ _ n => n⟩
/-- an object that is not shared becomes shared -/
theorem Step.share {H H0 H' H0' : Hp} {p : Addr} {o : HO} (z0 : Same H0 H) (s : Step H H0 H' H0') (h : H p = none) (e : H' p = some o) (n0 : H0' p = none) : Step H H0 H' (upd H0' p o) :=
  ⟨s.big, same_upd' s.small (none_sub z0 h), fun b u q => by
    by_cases hb : b = p
    · subst hb; rw [upd_same] at q; cases q; exact e
    · rw [upd_ne hb] at q; exact s.sub b u q, fun a u q n => by
    have hb : a ≠ p := fun z => by subst z; rw [h] at q; cases q
    rw [upd_ne hb]; exact s.apart a u q n⟩
/-- an expression's answer: data, an error of the text's own (its class by name, what it holds), or nothing known -/
inductive Res (α : Type) where
  | ok (a : α)
  | exc (x : String) (d : D)
  | stuck
def Res.bind {α β : Type} : Res α → (α → Res β) → Res β
  | .ok a, k => k a
  | .exc x d, _ => .exc x d
  | .stuck, _ => .stuck
/-- c is asked here -/
def need {α : Type} (c : Prop) [Decidable c] (r : Res α) : Res α := if c then r else .stuck
/-- a local name: nothing known, shared data, a list or a dict that nothing else holds, an error that a suite has caught -/
inductive Slot where
  | un
  | sh (d : D)
  | own (xs : List D)
  | ownD (ks : List Key) (vs : List D)
  | ownO (p C : Addr) (ns : List Str) (vs : List D)
  | er (x : String) (d : D)
  | lk (ks : List Key) (vs : List D)
  deriving Inhabited
abbrev En := List Slot
/-- the error classes: by name the class and its one field -/
abbrev ET := String → Option (Addr × Str)
/-- the caught error, where a suite runs: its object, its class, its dict -/
abbrev Caught := Option (Addr × Value × Option Addr)
/-- what a slot is known to hold -/
def Holds (K : PySem.W.Frag) (et : ET) (ce : Caught) (Hs H H0 : Hp) : Option (Option V) → Slot → Prop
  | _, .un => True
  | some (some v), .sh d => Rep K H0 v d
  | some (some v), .own xs => ∃ p vs, v = .ref p ∧ Hs p = none ∧ H p = some (.lst vs) ∧ H0 p = none ∧ RepAll K H0 vs xs
  | some (some v), .ownD ks xs => ∃ p kvs, v = .ref p ∧ Hs p = none ∧ H p = some (.dK kvs) ∧ H0 p = none ∧ kvs.map (·.1) = ks ∧ RepAll K H0 (kvs.map (·.2)) xs
  | some (some v), .ownO p C ns xs => v = .ref p ∧ ∃ dx fs, Hs p = none ∧ H p = some (.ins C dx fs) ∧ H0 p = none ∧ fs.map (·.1) = ns ∧ RepAll K H0 (fs.map (·.2)) xs
  | some (some v), .er x d => ∃ a C fld dd w, ce = some (a, .ref C, some dd) ∧ et x = some (C, fld) ∧ v = .ref a ∧ H0 dd = some (.xd [(fld, w)]) ∧ Rep K H0 w d
  | some (some v), .lk ks xs => ∃ p od kvs, ce = some (p, .none, none) ∧ v = .ref p ∧ H p = some (.frz od (.dK kvs)) ∧ H0 p = none ∧ kvs.map (·.1) = ks ∧ RepAll K H0 (kvs.map (·.2)) xs
  | _, _ => False
/-- is it a thing that nothing else holds? -/
def Slot.alone : Slot → Bool
  | .own _ | .ownD _ _ | .ownO _ _ _ _ => true
  | _ => false
/-- where a def stands: Hs, H0s its start; the slots and heaps now -/
structure Stn (K : PySem.W.Frag) (et : ET) (ce : Caught) (Hs H0s : Hp) (σ : L2.St) (H H0 : Hp) (Γ : En) : Prop where
  z : Same H0s Hs
  st : Step Hs H0s H H0
  len : Γ.length ≤ σ.length
  at_ : ∀ (i : Nat) (s : Slot), Γ[i]? = some s → Holds K et ce Hs H H0 σ[i]? s
  one : ∀ (i j : Nat) (s t : Slot) (p : Addr), Γ[i]? = some s → Γ[j]? = some t → s.alone = true → t.alone = true → σ[i]? = some (some (.ref p)) → σ[j]? = some (some (.ref p)) → i = j
theorem Holds.step {K : PySem.W.Frag} {et : ET} {ce : Caught} {Hs H H0 H' H0' : Hp} (s : Step H H0 H' H0') {v : Option (Option V)} {sl : Slot} (h : Holds K et ce Hs H H0 v sl) : Holds K et ce Hs H' H0' v sl := by
  cases sl with
  | un => cases v <;> trivial
  | sh d =>
    match v, h with
    | some (some v), h => exact Rep.same s.small h
  | own xs =>
    match v, h with
    | some (some v), ⟨p, vs, e, hs, hp, h0, r⟩ => exact ⟨p, vs, e, hs, s.big _ _ hp, s.apart _ _ hp h0, r.same s.small⟩
  | ownD ks xs =>
    match v, h with
    | some (some v), ⟨p, kvs, e, hs, hp, h0, k, r⟩ => exact ⟨p, kvs, e, hs, s.big _ _ hp, s.apart _ _ hp h0, k, r.same s.small⟩
  | ownO p C ns xs =>
    match v, h with
    | some (some v), ⟨e, dx, fs, hs, hp, h0, k, r⟩ => exact ⟨e, dx, fs, hs, s.big _ _ hp, s.apart _ _ hp h0, k, r.same s.small⟩
  | er x d =>
    match v, h with
    | some (some v), ⟨a, C, fld, dd, w, e, t, ev, hd, r⟩ => exact ⟨a, C, fld, dd, w, e, t, ev, s.small _ _ hd, r.same s.small⟩
  | lk ks xs =>
    match v, h with
    | some (some v), ⟨p, od, kvs, e, ev, hp, h0, k, r⟩ => exact ⟨p, od, kvs, e, ev, s.big _ _ hp, s.apart _ _ hp h0, k, r.same s.small⟩
section
variable {K : PySem.W.Frag} {et : ET} {ce : Caught} {Hs H0s H H0 H' H0' : Hp} {σ : L2.St} {Γ : En}
theorem Stn.sub (c : Stn K et ce Hs H0s σ H H0 Γ) : Same H0 H := c.st.sub
theorem Stn.step (c : Stn K et ce Hs H0s σ H H0 Γ) (s : Step H H0 H' H0') : Stn K et ce Hs H0s σ H' H0' Γ :=
  ⟨c.z, c.st.trans s, c.len, fun i sl e => (c.at_ i sl e).step s, c.one⟩
/-- a slot holds shared data from now on -/
theorem Stn.put (c : Stn K et ce Hs H0s σ H H0 Γ) (i : Nat) {v : V} {d : D} (h : Rep K H0 v d) : Stn K et ce Hs H0s (σ.set i (some v)) H H0 (Γ.set i (.sh d)) := by
  refine ⟨c.z, c.st, by simpa using c.len, fun j s e => ?_, fun j k s t p ej ek aj ak hj hk => ?_⟩
  · by_cases hj : i = j
    · subst hj
      have hi : i < Γ.length := by
        have := (List.getElem?_eq_some_iff.mp e).1
        simpa using this
      rw [List.getElem?_set_self hi] at e
      cases e
      rw [List.getElem?_set_self (Nat.lt_of_lt_of_le hi c.len)]
      exact h
    · rw [List.getElem?_set_ne hj] at e ⊢
      exact c.at_ j s e
  · have nj : i ≠ j := fun z => by
      subst z
      have hi : i < Γ.length := by
        have := (List.getElem?_eq_some_iff.mp ej).1
        simpa using this
      rw [List.getElem?_set_self hi] at ej; cases ej; cases aj
    have nk : i ≠ k := fun z => by
      subst z
      have hi : i < Γ.length := by
        have := (List.getElem?_eq_some_iff.mp ek).1
        simpa using this
      rw [List.getElem?_set_self hi] at ek; cases ek; cases ak
    rw [List.getElem?_set_ne nj] at ej hj
    rw [List.getElem?_set_ne nk] at ek hk
    exact c.one j k s t p ej ek aj ak hj hk
/-- nothing is known of a slot any more -/
theorem Stn.forget (c : Stn K et ce Hs H0s σ H H0 Γ) (i : Nat) (x : Option V) : Stn K et ce Hs H0s (σ.set i x) H H0 (Γ.set i .un) := by
  have no : ∀ {j : Nat} {s : Slot}, (Γ.set i .un)[j]? = some s → s.alone = true → i ≠ j := fun {j s} e a z => by
    subst z
    have hi : i < Γ.length := by
      have := (List.getElem?_eq_some_iff.mp e).1
      simpa using this
    rw [List.getElem?_set_self hi] at e; cases e; cases a
  refine ⟨c.z, c.st, by simpa using c.len, fun j s e => ?_, fun j k s t p ej ek aj ak hj hk => ?_⟩
  · by_cases hj : i = j
    · subst hj
      have hi : i < Γ.length := by
        have := (List.getElem?_eq_some_iff.mp e).1
        simpa using this
      rw [List.getElem?_set_self hi] at e
      cases e
      cases (σ.set i x)[i]? <;> trivial
    · rw [List.getElem?_set_ne hj] at e ⊢
      exact c.at_ j s e
  · have nj := no ej aj
    have nk := no ek ak
    rw [List.getElem?_set_ne nj] at ej hj
    rw [List.getElem?_set_ne nk] at ek hk
    exact c.one j k s t p ej ek aj ak hj hk
end
end DL
namespace DL
open PySem L2 PySem.Spec PyProof.Rows
/-- how an answer stands for what was said: the heap ahead, the heap behind, its shared part behind -/
abbrev Rl (α β : Type) := Hp → Hp → Hp → β → α → Prop
def RD (K : PySem.W.Frag) : Rl D V := fun _ _ H0 v d => Rep K H0 v d
/-- a thing that is read where it stands: a list or dict may be one that nothing else holds -/
def RepO (K : PySem.W.Frag) (H H0 : Hp) (v : V) : D → Prop
  | .lst xs => ∃ a vs, v = .ref a ∧ H a = some (.lst vs) ∧ RepAll K H0 vs xs
  | .dic ks xs => ∃ a kvs, v = .ref a ∧ H a = some (.dK kvs) ∧ kvs.map (·.1) = ks ∧ RepAll K H0 (kvs.map (·.2)) xs
  | d => Rep K H0 v d
def RO (K : PySem.W.Frag) : Rl D V := fun _ H' H0 v d => RepO K H' H0 v d
def RA (K : PySem.W.Frag) : Rl (List D) (List V) := fun _ _ H0 vs ds => RepAll K H0 vs ds
def RB : Rl Bool Bool := fun _ _ _ b a => b = a
/-- a new list that nothing else holds -/
def RF (K : PySem.W.Frag) : Rl (List D) V := fun H H' H0 v xs => ∃ p vs, v = .ref p ∧ H p = none ∧ H' p = some (.lst vs) ∧ H0 p = none ∧ RepAll K H0 vs xs
/-- a new dict that nothing else holds -/
def RFD (K : PySem.W.Frag) : Rl (List Key × List D) V := fun H H' H0 v xs => ∃ p kvs, v = .ref p ∧ H p = none ∧ H' p = some (.dK kvs) ∧ H0 p = none ∧ kvs.map (·.1) = xs.1 ∧ RepAll K H0 (kvs.map (·.2)) xs.2
/-- what the heap ahead is: an earlier one will do -/
def Back {α β : Type} (R : Rl α β) : Prop := ∀ H G H' H0 b a, Same H G → R G H' H0 b a → R H H' H0 b a
theorem back_D {K : PySem.W.Frag} : Back (RD K) := fun _ _ _ _ _ _ _ h => h
theorem back_A {K : PySem.W.Frag} : Back (RA K) := fun _ _ _ _ _ _ _ h => h
theorem back_B : Back RB := fun _ _ _ _ _ _ _ h => h
theorem back_F {K : PySem.W.Frag} : Back (RF K) := fun _ _ _ _ _ _ s ⟨p, vs, e, h, r⟩ => ⟨p, vs, e, none_sub s h, r⟩
def Post {α β : Type} (K : PySem.W.Frag) (et : ET) (W : WX) (R : Rl α β) (σ : L2.St) (H H0 : Hp) (Q : β → Hp → Prop) : Res α → Prop
  | .ok a => ∀ b H' H0', Step H H0 H' H0' → R H H' H0' b a → Q b H'
  | .exc x d => ∀ C fld dd w H' H0', et x = some (C, fld) → Step H H0 H' H0' → H0' dd = some (.xd [(fld, w)]) → Rep K H0' w d → W (.ref C) (some dd) σ H'
  | .stuck => False
theorem Post.step {α β : Type} {K : PySem.W.Frag} {et : ET} {W : WX} {R : Rl α β} (hR : Back R) {σ : L2.St} {H H0 G G0 : Hp} {Q : β → Hp → Prop} {r : Res α} (s : Step H H0 G G0) (h : Post K et W R σ H H0 Q r) : Post K et W R σ G G0 Q r := by
  cases r with
  | ok a => exact fun b H' H0' t q => h b H' H0' (s.trans t) (hR _ _ _ _ _ _ s.big q)
  | exc x d => exact fun C fld dd w H' H0' e t => h C fld dd w H' H0' e (s.trans t)
  | stuck => exact h
/-- the reading t does what m says -/
def Good {α β : Type} (K : PySem.W.Frag) (et : ET) (ce : Caught) (W : WX) (R : Rl α β) (t : L2.St → Hp → (β → Hp → Prop) → Prop) (m : En → Res α) : Prop :=
  ∀ Hs H0s σ H H0 Γ Q, Stn K et ce Hs H0s σ H H0 Γ → Post K et W R σ H H0 Q (m Γ) → t σ H Q
section
variable {α β γ δ : Type} {K : PySem.W.Frag} {et : ET} {ce : Caught} {W : WX} {σ : L2.St} {H H0 : Hp}
/-- one behind the other -/
theorem Post.next {R : Rl α β} {R2 : Rl γ δ} {Q : δ → Hp → Prop} {Q1 : β → Hp → Prop} {r : Res α} {k : α → Res γ} (h : Post K et W R2 σ H H0 Q (r.bind k))
    (hq : ∀ a b H' H0', r = .ok a → Step H H0 H' H0' → R H H' H0' b a → Post K et W R2 σ H H0 Q (k a) → Q1 b H') : Post K et W R σ H H0 Q1 r := by
  cases r with
  | ok a => exact fun b H' H0' s q => hq a b H' H0' rfl s q h
  | exc x d => exact h
  | stuck => exact h
theorem need_if {c : Prop} [Decidable c] {r : Res α} {R : Rl α β} {Q : β → Hp → Prop} (h : Post K et W R σ H H0 Q (need c r)) : c ∧ Post K et W R σ H H0 Q r := by
  unfold need at h
  split at h
  · rename_i hc; exact ⟨hc, h⟩
  · exact h.elim
end
section
variable (X : Cx) (et : ET) (ce : Caught) (W : WX)
structure DE (e : Expr) (m : En → Res D) : Prop where ex : ∃ t, PE X e t ∧ Good X.K et ce W (RD X.K) t m
structure DO (e : Expr) (m : En → Res D) : Prop where ex : ∃ t, PE X e t ∧ Good X.K et ce W (RO X.K) t m
structure DF (e : Expr) (m : En → Res (List D)) : Prop where ex : ∃ t, PE X e t ∧ Good X.K et ce W (RF X.K) t m
structure DFD (e : Expr) (m : En → Res (List Key × List D)) : Prop where ex : ∃ t, PE X e t ∧ Good X.K et ce W (RFD X.K) t m
structure DA (es : List Expr) (m : En → Res (List D)) : Prop where ex : ∃ t, PA X es t ∧ Good X.K et ce W (RA X.K) t m
structure DT (e : Expr) (m : En → Res Bool) : Prop where ex : ∃ t, PT X e t ∧ Good X.K et ce W RB t m
structure DW (e : Expr) (m : En → Res Bool) : Prop where ex : ∃ t, PW X e t ∧ Good X.K et ce W RB t m
end
/-- what a built-in operation gives: data that stands, a new list, a new tuple -/
inductive Giv where
  | val (d : D)
  | newL (ds : List D)
  | newT (ds : List D)
def Giv.d : Giv → D
  | .val d => d
  | .newL ds => .lst ds
  | .newT ds => .tup ds
def toR : Option Giv → Res D
  | none => .stuck
  | some g => .ok g.d
def toF : Option Giv → Res (List D)
  | some (.newL ds) => .ok ds
  | _ => .stuck
def Asked (K : PySem.W.Frag) (H H0 : Hp) (Q : VK) : Option Giv → Prop
  | none => False
  | some (.val d) => ∀ v, Rep K H0 v d → Q v H
  | some (.newL ds) => ∀ p vs, H p = none → RepAll K H0 vs ds → Q (.ref p) (upd H p (.lst vs))
  | some (.newT ds) => ∀ p vs, H p = none → RepAll K H0 vs ds → Q (.ref p) (upd H p (.tup vs))
section
variable {K : PySem.W.Frag} {et : ET} {W : WX} {σ : L2.St} {H H0 : Hp}
theorem asked {Q : VK} {g : Option Giv} (s : Same H0 H) (h : Post K et W (RD K) σ H H0 Q (toR g)) : Asked K H H0 Q g := by
  match g, h with
  | none, h => exact h
  | some (.val d), h => exact fun v r => h v H H0 (Step.refl s) r
  | some (.newL ds), h => exact fun p vs n r => h _ _ _ (Step.new s n) (Rep.lst upd_same (r.same (same_upd' (Same.refl _) (none_sub s n))))
  | some (.newT ds), h => exact fun p vs n r => h _ _ _ (Step.new s n) (Rep.tup (SqT.of upd_same) (r.same (same_upd' (Same.refl _) (none_sub s n))))
theorem askedF {Q : VK} {g : Option Giv} (s : Same H0 H) (h : Post K et W (RF K) σ H H0 Q (toF g)) : Asked K H H0 Q g := by
  match g, h with
  | none, h => exact h.elim
  | some (.val d), h => exact h.elim
  | some (.newT ds), h => exact h.elim
  | some (.newL ds), h => exact fun p vs n r => h _ _ _ (Step.own s n) ⟨p, vs, rfl, n, upd_same, none_sub s n, r⟩
end
def r1D (K : PySem.W.Frag) (g : D → Option Giv) : V → Hp → VK → Prop := fun x H Q => ∃ H0 d, Same H0 H ∧ RepO K H H0 x d ∧ Asked K H H0 Q (g d)
def r2D (K : PySem.W.Frag) (g : D → D → Option Giv) : R2 := fun x y H Q => ∃ H0 d e, Same H0 H ∧ RepO K H H0 x d ∧ RepO K H H0 y e ∧ Asked K H H0 Q (g d e)
theorem RepO.same {K : PySem.W.Frag} {H H0 H' H0' : Hp} {v : V} {d : D} (s : Step H H0 H' H0') (h : RepO K H H0 v d) : RepO K H' H0' v d := by
  cases d with
  | lst xs => obtain ⟨a, vs, e, q, r⟩ := h; exact ⟨a, vs, e, s.big _ _ q, r.same s.small⟩
  | dic ks xs => obtain ⟨a, kvs, e, q, k, r⟩ := h; exact ⟨a, kvs, e, s.big _ _ q, k, r.same s.small⟩
  | _ => exact Rep.same s.small h
theorem Rep.toO {K : PySem.W.Frag} {H H0 : Hp} {v : V} {d : D} (s : Same H0 H) (h : Rep K H0 v d) : RepO K H H0 v d := by
  cases d with
  | lst xs => cases h with | lst q r => exact ⟨_, _, rfl, s _ _ q, r⟩
  | dic ks xs => cases h with | dic q k r => exact ⟨_, _, rfl, s _ _ q, k, r⟩
  | _ => exact h
section
variable {X : Cx} {et : ET} {ce : Caught} {W : WX} {e a b : Expr} {es : List Expr} {m ma mb : En → Res D} {pos : Pos}
theorem DE.o (h : DE X et ce W e m) : DO X et ce W e m := by
  obtain ⟨t, p, g⟩ := h
  refine ⟨t, p, fun Hs H0s σ H H0 Γ Q c q => g _ _ _ _ _ _ _ c ?_⟩
  revert q
  cases m Γ with
  | ok d => exact fun q v H' H0' s r => q v H' H0' s (r.toO s.sub)
  | exc x d => exact fun q => q
  | stuck => exact fun q => q
/-- a new thing is shared at once -/
theorem DF.all {m : En → Res (List D)} (h : DF X et ce W e m) : DE X et ce W e (fun Γ => (m Γ).bind fun xs => .ok (.lst xs)) := by
  obtain ⟨t, p, g⟩ := h
  refine ⟨t, p, fun Hs H0s σ H H0 Γ Q c q => g _ _ _ _ _ _ _ c ?_⟩
  refine Post.next q fun xs v H' H0' _ s ⟨p, vs, e, hp, hp', h0, r⟩ k => ?_
  subst e
  exact k _ H' _ (Step.share c.sub s hp hp' h0) (.lst upd_same (r.same (same_upd' (Same.refl _) h0)))
theorem DFD.all {m : En → Res (List Key × List D)} (h : DFD X et ce W e m) : DE X et ce W e (fun Γ => (m Γ).bind fun xs => .ok (.dic xs.1 xs.2)) := by
  obtain ⟨t, p, g⟩ := h
  refine ⟨t, p, fun Hs H0s σ H H0 Γ Q c q => g _ _ _ _ _ _ _ c ?_⟩
  refine Post.next q fun xs v H' H0' _ s ⟨p, vs, e, hp, hp', h0, ks, r⟩ k => ?_
  subst e
  exact k _ H' _ (Step.share c.sub s hp hp' h0) (.dic upd_same ks (r.same (same_upd' (Same.refl _) h0)))
def getS (Γ : En) (i : Nat) : Res D := match Γ[i]? with
  | some (.sh d) => .ok d
  | _ => .stuck
/-- where it is only read -/
def getO (Γ : En) (i : Nat) : Res D := match Γ[i]? with
  | some (.sh d) => .ok d
  | some (.own xs) => .ok (.lst xs)
  | some (.ownD ks xs) => .ok (.dic ks xs)
  | _ => .stuck
theorem d_var {i : Nat} (h : PE X e (tVar i)) : DE X et ce W e (fun Γ => getS Γ i) := by
  refine ⟨_, h, fun Hs H0s σ H H0 Γ Q c q => ?_⟩
  unfold getS at q
  dsimp only at q
  split at q
  · rename_i d e
    have z := c.at_ i _ e
    match hv : σ[i]?, z with
    | some (some v), z => exact ⟨v, hv, q v H H0 (Step.refl c.sub) z⟩
  · exact q.elim
theorem d_varO {i : Nat} (h : PE X e (tVar i)) : DO X et ce W e (fun Γ => getO Γ i) := by
  refine ⟨_, h, fun Hs H0s σ H H0 Γ Q c q => ?_⟩
  unfold getO at q
  dsimp only at q
  split at q
  · rename_i d e
    have z := c.at_ i _ e
    match hv : σ[i]?, z with
    | some (some v), z => exact ⟨v, hv, q v H H0 (Step.refl c.sub) (Rep.toO c.sub z)⟩
  · rename_i xs e
    have z := c.at_ i _ e
    match hv : σ[i]?, z with
    | some (some v), ⟨p, vs, ev, hs, hp, h0, r⟩ => exact ⟨v, hv, q v H H0 (Step.refl c.sub) ⟨p, vs, ev, hp, r⟩⟩
  · rename_i ks xs e
    have z := c.at_ i _ e
    match hv : σ[i]?, z with
    | some (some v), ⟨p, kvs, ev, hs, hp, h0, k, r⟩ => exact ⟨v, hv, q v H H0 (Step.refl c.sub) ⟨p, kvs, ev, hp, k, r⟩⟩
  · exact q.elim
theorem d_con {v : V} {d : D} (h : PE X e (tC v)) (r : ∀ H, Rep X.K H v d) : DE X et ce W e (fun _ => .ok d) :=
  ⟨_, h, fun Hs H0s σ H H0 Γ Q c q => q v H H0 (Step.refl c.sub) (r _)⟩
theorem d_int {i : Int} (h : PE X e (tC (.int i))) : DE X et ce W e (fun _ => .ok (.int i)) := d_con h fun _ => .int i
theorem d_bl {i : Bool} (h : PE X e (tC (.bl i))) : DE X et ce W e (fun _ => .ok (.bl i)) := d_con h fun _ => .bl i
theorem d_str {i : Str} (h : PE X e (tC (.str i))) : DE X et ce W e (fun _ => .ok (.str i)) := d_con h fun _ => .str i
theorem d_non (h : PE X e (tC .non)) : DE X et ce W e (fun _ => .ok .non) := d_con h fun _ => .non
theorem da_nil : DA X et ce W [] (fun _ => .ok []) := ⟨_, pa_nil, fun _ _ _ H H0 _ _ c q => q [] H H0 (Step.refl c.sub) .nil⟩
theorem da_cons {ms : En → Res (List D)} (h : DE X et ce W e m) (hs : DA X et ce W es ms) (hst : starEach (e :: es) X.env = (false, eval e X.env) :: starEach es X.env := by rfl) :
    DA X et ce W (e :: es) (fun Γ => (m Γ).bind fun d => (ms Γ).bind fun ds => .ok (d :: ds)) := by
  obtain ⟨t, p, g⟩ := h
  obtain ⟨t2, p2, g2⟩ := hs
  refine ⟨_, pa_cons p p2 hst, fun Hs H0s σ H H0 Γ Q c q => g _ _ _ _ _ _ _ c ?_⟩
  refine Post.next q fun d v H1 H01 _ s r q => g2 _ _ _ _ _ _ _ (c.step s) ?_
  refine Post.next (q.step back_A s) fun ds vs H2 H02 _ s2 r2 q => ?_
  exact q _ _ _ s2 (.cons (r.same s2.small) r2)
theorem d_tup {ms : En → Res (List D)} {x1} (h : DA X et ce W es ms) : DE X et ce W (.Tuple es x1 pos) (fun Γ => (ms Γ).bind fun ds => need (ds.length ≤ 1000) (.ok (.tup ds))) := by
  obtain ⟨t, p, g⟩ := h
  refine ⟨_, pe_tup p, fun Hs H0s σ H H0 Γ Q c q => g _ _ _ _ _ _ _ c ?_⟩
  refine Post.next q fun ds vs H1 H01 _ s r q => ?_
  obtain ⟨hl, q⟩ := need_if q
  refine ⟨by rw [r.len]; exact Nat.le_of_lt (small1000 hl), fun p n => ?_⟩
  exact q _ _ _ (s.trans (Step.new s.sub n)) (.tup (SqT.of upd_same) (r.same (same_upd' (Same.refl _) (none_sub s.sub n))))
theorem d_lst {ms : En → Res (List D)} (h : DA X et ce W es ms) : DF X et ce W (.List es pos) (fun Γ => (ms Γ).bind fun ds => need (ds.length ≤ 1000) (.ok ds)) := by
  obtain ⟨t, p, g⟩ := h
  refine ⟨_, pe_lst p, fun Hs H0s σ H H0 Γ Q c q => g _ _ _ _ _ _ _ c ?_⟩
  refine Post.next q fun ds vs H1 H01 _ s r q => ?_
  obtain ⟨hl, q⟩ := need_if q
  refine ⟨by rw [r.len]; exact Nat.le_of_lt (small1000 hl), fun p n => ?_⟩
  exact q _ _ _ (s.trans (Step.own s.sub n)) ⟨p, vs, rfl, none_sub s.big n, upd_same, none_sub s.sub n, r⟩
theorem good_op {r : R2} {ta tb : TE} {g : D → D → Option Giv} (ga : Good X.K et ce W (RO X.K) ta ma) (gb : Good X.K et ce W (RO X.K) tb mb) :
    Good X.K et ce W (RD X.K) (tOp (r2D X.K g) ta tb) (fun Γ => (ma Γ).bind fun x => (mb Γ).bind fun y => toR (g x y)) := by
  intro Hs H0s σ H H0 Γ Q c q
  refine ga _ _ _ _ _ _ _ c (Post.next q fun d v H1 H01 _ s r q => gb _ _ _ _ _ _ _ (c.step s) ?_)
  refine Post.next (q.step back_D s) fun d2 v2 H2 H02 _ s2 r2 q => ?_
  exact ⟨H02, d, d2, s2.sub, r.same s2, r2, asked (σ := σ) s2.sub (q.step back_D s2)⟩
theorem d_op {op : Operator} {g : D → D → Option Giv} (ho : OpR X (binaryOp op) (r2D X.K g)) (ha : DO X et ce W a ma) (hb : DO X et ce W b mb) :
    DE X et ce W (.BinOp a op b pos) (fun Γ => (ma Γ).bind fun x => (mb Γ).bind fun y => toR (g x y)) := by
  obtain ⟨t, p, ga⟩ := ha
  obtain ⟨t2, p2, gb⟩ := hb
  exact ⟨_, pe_op ho p p2, good_op (r := r2D X.K g) ga gb⟩
theorem d_cmp {op : CmpOp} {g : D → D → Option Giv} (ho : OpR X (compareOp op) (r2D X.K g)) (ha : DO X et ce W a ma) (hb : DO X et ce W b mb) (hm : behindInMarks op b = false) :
    DE X et ce W (.Compare a [op] [b] pos) (fun Γ => (ma Γ).bind fun x => (mb Γ).bind fun y => toR (g x y)) := by
  obtain ⟨t, p, ga⟩ := ha
  obtain ⟨t2, p2, gb⟩ := hb
  exact ⟨_, pe_cmpR ho p p2 hm, good_op (r := r2D X.K g) ga gb⟩
def toB : Res D → Res Bool
  | .ok (.bl b) => .ok b
  | .exc x d => .exc x d
  | _ => .stuck
theorem post_B {K : PySem.W.Frag} {σ : L2.St} {H H0 : Hp} {Q : Bool → Hp → Prop} {r : Res D} (h : Post K et W RB σ H H0 Q (toB r)) : Post K et W (RD K) σ H H0 (fun x H' => ∃ k, x = .bl k ∧ Q k H') r := by
  match r, h with
  | .ok (.bl k), h => exact fun v H' H0' s q => by cases (show Rep K H0' v (.bl k) from q) with | bl => exact ⟨k, rfl, h k H' H0' s rfl⟩
  | .exc x d, h => exact h
theorem dt_cmp {op : CmpOp} {g : D → D → Option Giv} (ho : OpR X (compareOp op) (r2D X.K g)) (ha : DO X et ce W a ma) (hb : DO X et ce W b mb) (hm : behindInMarks op b = false) :
    DT X et ce W (.Compare a [op] [b] pos) (fun Γ => toB ((ma Γ).bind fun x => (mb Γ).bind fun y => toR (g x y))) := by
  obtain ⟨t, p, ga⟩ := ha
  obtain ⟨t2, p2, gb⟩ := hb
  exact ⟨_, pt_cmpR ho p p2 hm, fun Hs H0s σ H H0 Γ Q c q => good_op (r := r2D X.K g) ga gb _ _ _ _ _ _ _ c (post_B q)⟩
/-- an expression that gives a bool, as a test -/
theorem dt_val (h : DE X et ce W e m) (hp : ∀ t, PE X e t → PT X e (tB t)) : DT X et ce W e (fun Γ => toB (m Γ)) := by
  obtain ⟨t, p, g⟩ := h
  exact ⟨_, hp t p, fun Hs H0s σ H H0 Γ Q c q => g _ _ _ _ _ _ _ c (post_B q)⟩
theorem d_un {op : UnaryOp} {g : D → Option Giv} (ho : UnR X (unaryOp op) (r1D X.K g)) (ha : DO X et ce W a ma) : DE X et ce W (.UnaryOp op a pos) (fun Γ => (ma Γ).bind fun x => toR (g x)) := by
  obtain ⟨t, p, ga⟩ := ha
  refine ⟨_, pe_un ho p, fun Hs H0s σ H H0 Γ Q c q => ga _ _ _ _ _ _ _ c (Post.next q fun d v H1 H01 _ s r q => ?_)⟩
  exact ⟨H01, d, s.sub, r, asked (σ := σ) s.sub (q.step back_D s)⟩
end
end DL
namespace DL
open PySem L2 PySem.Spec PyProof.Rows
/-- where a statement ends -/
inductive Out where
  | nx (Γ : En)
  | rt (s : Slot)
  | bk (Γ : En)
  | ct (Γ : En)
  | exc (x : String) (d : D) (Γ : En)
  | stuck
def PostS (K : PySem.W.Frag) (et : ET) (ce : Caught) (W : WX) (Hs H0s H0 : Hp) (E : Ends) : Out → Prop
  | .nx Γ => ∀ σ H G, Stn K et ce Hs H0s σ H G Γ → Same H0 G → E.nx σ H
  | .bk Γ => ∀ σ H G, Stn K et ce Hs H0s σ H G Γ → Same H0 G → E.bk σ H
  | .ct Γ => ∀ σ H G, Stn K et ce Hs H0s σ H G Γ → Same H0 G → E.ct σ H
  | .rt s => ∀ v H G, Step Hs H0s H G → Holds K et none Hs H G (some (some v)) s → E.rt v H
  | .exc x d Γ => ∀ C fld dd w σ H G, et x = some (C, fld) → Stn K et ce Hs H0s σ H G Γ → Same H0 G → G dd = some (.xd [(fld, w)]) → Rep K G w d → W (.ref C) (some dd) σ H
  | .stuck => False
theorem PostS.up {K : PySem.W.Frag} {et : ET} {ce : Caught} {W : WX} {Hs H0s H0 G0 : Hp} {E : Ends} {o : Out} (s : Same H0 G0) (h : PostS K et ce W Hs H0s H0 E o) : PostS K et ce W Hs H0s G0 E o := by
  cases o with
  | nx Γ => exact fun σ H G c g => h σ H G c (Same.trans s g)
  | bk Γ => exact fun σ H G c g => h σ H G c (Same.trans s g)
  | ct Γ => exact fun σ H G c g => h σ H G c (Same.trans s g)
  | rt s => exact h
  | exc x d Γ => exact fun C fld dd w σ H G e c g => h C fld dd w σ H G e c (Same.trans s g)
  | stuck => exact h
def GoodS (K : PySem.W.Frag) (et : ET) (ce : Caught) (W : WX) (t : TS) (m : En → Out) : Prop :=
  ∀ Hs H0s σ H H0 Γ E, Stn K et ce Hs H0s σ H H0 Γ → PostS K et ce W Hs H0s H0 E (m Γ) → t E σ H
structure DS (X : Cx) (et : ET) (ce : Caught) (W : WX) (st : Stmt) (m : En → Out) : Prop where ex : ∃ t, PS X st t ∧ GoodS X.K et ce W t m
structure DSs (X : Cx) (et : ET) (ce : Caught) (W : WX) (st : List Stmt) (m : En → Out) : Prop where ex : ∃ t, PSs X st t ∧ GoodS X.K et ce W t m
def mTo {α : Type} (r : Res α) (Γ : En) (k : α → Out) : Out := match r with
  | .ok a => k a
  | .exc x d => .exc x d Γ
  | .stuck => .stuck
section
variable {α β : Type} {K : PySem.W.Frag} {et : ET} {ce : Caught} {W : WX} {σ : L2.St} {Hs H0s H H0 : Hp} {Γ : En} {E : Ends}
theorem PostS.to {R : Rl α β} {Q1 : β → Hp → Prop} {r : Res α} {k : α → Out} (c : Stn K et ce Hs H0s σ H H0 Γ) (h : PostS K et ce W Hs H0s H0 E (mTo r Γ k))
    (hq : ∀ a b H' G, r = .ok a → Step H H0 H' G → R H H' G b a → PostS K et ce W Hs H0s H0 E (k a) → Q1 b H') : Post K et W R σ H H0 Q1 r := by
  cases r with
  | ok a => exact fun b H' G s q => hq a b H' G rfl s q h
  | exc x d => exact fun C fld dd w H' G e s hd r => h C fld dd w σ H' G e (c.step s) s.small hd r
  | stuck => exact h
end
section
variable {X : Cx} {et : ET} {ce : Caught} {W : WX} {st : Stmt} {sts : List Stmt} {e a b c : Expr} {es : List Expr} {m ma mb : En → Res D} {pos : Pos} {ms mr : En → Out}
def mSeq (ms mr : En → Out) (Γ : En) : Out := match ms Γ with
  | .nx Γ' => mr Γ'
  | o => o
theorem ds_nil : DSs X et ce W [] (fun Γ => .nx Γ) := ⟨_, pss_nil, fun _ _ σ H H0 Γ E c q => q σ H H0 c (Same.refl _)⟩
theorem ds_one (h : DS X et ce W st ms) : DSs X et ce W [st] ms := by
  obtain ⟨t, p, g⟩ := h
  exact ⟨_, pss_one p, g⟩
theorem ds_cons (h : DS X et ce W st ms) (hr : DSs X et ce W sts mr) : DSs X et ce W (st :: sts) (mSeq ms mr) := by
  obtain ⟨t, p, g⟩ := h
  obtain ⟨t2, p2, g2⟩ := hr
  refine ⟨_, pss_cons p p2, fun Hs H0s σ H H0 Γ E c q => g _ _ _ _ _ _ _ c ?_⟩
  unfold mSeq at q
  revert q
  cases ms Γ with
  | nx Γ' => exact fun q σ' H' G c' s => g2 _ _ _ _ _ _ _ c' (q.up s)
  | bk Γ' => exact fun q => q
  | ct Γ' => exact fun q => q
  | rt s => exact fun q => q
  | exc x d Γ' => exact fun q => q
  | stuck => exact fun q => q
/-- the places of vs alone are other -/
def OnlyAt (vs : List Nat) (σ σ' : L2.St) : Prop := σ'.length = σ.length ∧ ∀ j, j ∉ vs → σ'[j]? = σ[j]?
theorem OnlyAt.refl {vs : List Nat} {σ : L2.St} : OnlyAt vs σ σ := ⟨rfl, fun _ _ => rfl⟩
theorem OnlyAt.trans {vs : List Nat} {σ τ υ : L2.St} (h : OnlyAt vs σ τ) (g : OnlyAt vs τ υ) : OnlyAt vs σ υ := ⟨g.1.trans h.1, fun j hj => (g.2 j hj).trans (h.2 j hj)⟩
theorem OnlyAt.set {vs : List Nat} {σ : L2.St} {i : Nat} {x : Option V} (h : i ∈ vs) : OnlyAt vs σ (σ.set i x) := ⟨by simp, fun j hj => List.getElem?_set_ne (fun z => hj (by rw [← z]; exact h))⟩
structure GoodG (K : PySem.W.Frag) (et : ET) (ce : Caught) (vs : List Nat) (g : TG) (mg : D → En → Option En) : Prop where
  go : ∀ Hs H0s σ H H0 Γ x d Γ' (Q : L2.St → Hp → Prop), Stn K et ce Hs H0s σ H H0 Γ → Rep K H0 x d → mg d Γ = some Γ' → (∀ σ', OnlyAt vs σ σ' → Stn K et ce Hs H0s σ' H H0 Γ' → Q σ' H) → g x σ H Q
def bName (i : Nat) (d : D) (Γ : En) : Option En := some (Γ.set i (.sh d))
theorem good_name {K : PySem.W.Frag} {i : Nat} {vs : List Nat} (h : i ∈ vs) : GoodG K et ce vs (gName i) (bName i) :=
  ⟨fun Hs H0s σ H H0 Γ x d Γ' Q c r e k => by cases e; exact k _ (OnlyAt.set h) (c.put i r)⟩
/-- names for the items of a tuple -/
def bTup : List (D → En → Option En) → List D → En → Option En
  | [], [], Γ => some Γ
  | f :: fs, d :: ds, Γ => (f d Γ).bind fun Γ' => bTup fs ds Γ'
  | _, _, _ => none
inductive GoodGL (K : PySem.W.Frag) (et : ET) (ce : Caught) (vs : List Nat) : TGs → List (D → En → Option En) → Prop
  | nil : GoodGL K et ce vs gNil []
  | cons {g : TG} {gs : TGs} {f : D → En → Option En} {fs : List (D → En → Option En)} : GoodG K et ce vs g f → GoodGL K et ce vs gs fs → GoodGL K et ce vs (gCons g gs) (f :: fs)
theorem GoodGL.len {K : PySem.W.Frag} : ∀ {fs : List (D → En → Option En)} {ds : List D} {Γ Γ' : En}, bTup fs ds Γ = some Γ' → ds.length = fs.length
  | [], [], _, _, _ => rfl
  | f :: fs, d :: ds, Γ, Γ', e => by
    unfold bTup at e
    cases h : f d Γ with
    | none => rw [h] at e; cases e
    | some Γ1 => rw [h] at e; exact congrArg Nat.succ (GoodGL.len (K := K) e)
  | [], _ :: _, _, _, e => by cases e
  | _ :: _, [], _, _, e => by cases e
theorem GoodGL.go {K : PySem.W.Frag} {vs : List Nat} {g : TGs} {fs : List (D → En → Option En)} (h : GoodGL K et ce vs g fs) : ∀ {Hs H0s σ H H0 Γ xs ds Γ'} {Q : L2.St → Hp → Prop}, Stn K et ce Hs H0s σ H H0 Γ → RepAll K H0 xs ds → bTup fs ds Γ = some Γ' →
    (∀ σ', OnlyAt vs σ σ' → Stn K et ce Hs H0s σ' H H0 Γ' → Q σ' H) → g xs σ H Q := by
  induction h with
  | nil =>
    intro Hs H0s σ H H0 Γ xs ds Γ' Q c r e k
    cases r with
    | nil => cases e; exact ⟨rfl, k _ OnlyAt.refl c⟩
    | cons _ _ => cases e
  | @cons g gs f fs hg _ ih =>
    intro Hs H0s σ H H0 Γ xs ds Γ' Q c r e k
    cases r with
    | nil => cases e
    | @cons v vs' d ds r rt =>
      unfold bTup at e
      cases h : f d Γ with
      | none => rw [h] at e; cases e
      | some Γ1 =>
        rw [h] at e
        exact ⟨_, _, rfl, hg.go _ _ _ _ _ _ _ _ _ _ c r h fun σ1 o1 c1 => ih c1 rt e fun σ2 o2 c2 => k σ2 (OnlyAt.trans o1 o2) c2⟩
def bOfTup (fs : List (D → En → Option En)) (d : D) (Γ : En) : Option En := match d with
  | .tup ds => bTup fs ds Γ
  | _ => none
theorem good_tup {K : PySem.W.Frag} {vs : List Nat} {g : TGs} {fs : List (D → En → Option En)} {n : Nat} (h : GoodGL K et ce vs g fs) (hn : n = fs.length) : GoodG K et ce vs (gTup K n g) (bOfTup fs) := by
  refine ⟨fun Hs H0s σ H H0 Γ x d Γ' Q c r e k => ?_⟩
  cases r with
  | tup hs ra =>
    have e : bTup fs _ Γ = some Γ' := e
    exact ⟨_, _, rfl, seqT_same c.sub hs, by rw [ra.len, GoodGL.len (K := K) e, hn], h.go c ra e k⟩
  | _ => cases e
def mSet (i : Nat) (m : En → Res D) (Γ : En) : Out := mTo (m Γ) Γ fun d => .nx (Γ.set i (.sh d))
def mSetF (i : Nat) (m : En → Res (List D)) (Γ : En) : Out := mTo (m Γ) Γ fun d => .nx (Γ.set i (.own d))
def mAsg (mg : D → En → Option En) (m : En → Res D) (Γ : En) : Out := mTo (m Γ) Γ fun d => match mg d Γ with
  | some Γ' => .nx Γ'
  | none => .stuck
theorem ds_asg {g : TG} {mg : D → En → Option En} {vs : List Nat} (hp : ∀ te, PE X e te → PS X st (tAsg te g)) (hg : GoodG X.K et ce vs g mg) (h : DE X et ce W e m) : DS X et ce W st (mAsg mg m) := by
  obtain ⟨t, p, ge⟩ := h
  refine ⟨_, hp t p, fun Hs H0s σ H H0 Γ E c q => ge _ _ _ _ _ _ _ c ?_⟩
  refine PostS.to c q fun d v H' G _ s r q => ?_
  cases hm : mg d Γ with
  | none => rw [hm] at q; exact q.elim
  | some Γ' =>
    rw [hm] at q
    exact hg.go _ _ _ _ _ _ _ _ _ _ (c.step s) r hm fun σ' _ c' => q σ' H' G c' s.small
theorem ds_set {i : Nat} (hp : ∀ te, PE X e te → PS X st (tAsg te (gName i))) (h : DE X et ce W e m) : DS X et ce W st (mSet i m) := by
  obtain ⟨t, p, ge⟩ := h
  refine ⟨_, hp t p, fun Hs H0s σ H H0 Γ E c q => ge _ _ _ _ _ _ _ c ?_⟩
  exact PostS.to c q fun d v H' G _ s r q => q _ H' G ((c.step s).put i r) s.small
end
end DL
namespace DL
open PySem L2 PySem.Spec PyProof.Rows
section
variable {K : PySem.W.Frag} {et : ET} {ce : Caught} {Hs H0s H H0 H' G : Hp} {σ : L2.St} {Γ : En}
theorem get_lt {α : Type} {l : List α} {i : Nat} {x y : α} (h : (l.set i x)[i]? = some y) : i < l.length := by
  have := (List.getElem?_eq_some_iff.mp h).1
  simpa using this
theorem Stn.none_of (c : Stn K et ce Hs H0s σ H H0 Γ) {p : Addr} (h : H p = none) : Hs p = none := none_sub c.st.big h
/-- what stands alone in a slot is tracked -/
theorem Stn.tracked (c : Stn K et ce Hs H0s σ H H0 Γ) {i : Nat} {s : Slot} {p : Addr} (e : Γ[i]? = some s) (a : s.alone = true) (v : σ[i]? = some (some (.ref p))) : ∃ o, H p = some o ∧ H0 p = none := by
  have z := c.at_ i s e
  rw [v] at z
  cases s with
  | own xs => obtain ⟨q, vs, ev, _, hp, h0, _⟩ := z; cases ev; exact ⟨_, hp, h0⟩
  | ownD ks xs => obtain ⟨q, vs, ev, _, hp, h0, _⟩ := z; cases ev; exact ⟨_, hp, h0⟩
  | ownO q C ns xs => obtain ⟨ev, dx, fs, _, hp, h0, _⟩ := z; cases ev; exact ⟨_, hp, h0⟩
  | _ => cases a
/-- .. and no locked dict -/
theorem Stn.unfrz (c : Stn K et ce Hs H0s σ H H0 Γ) {i : Nat} {s : Slot} {p : Addr} (e : Γ[i]? = some s) (a : s.alone = true) (v : σ[i]? = some (some (.ref p))) {q : Addr} {od : Obj} {u : HO} (hq : H q = some (.frz od u)) : q ≠ p := fun zq => by
  subst zq
  have z := c.at_ i s e
  rw [v] at z
  cases s with
  | own xs => obtain ⟨q', vs, ev, _, hp, _⟩ := z; cases ev; rw [hp] at hq; cases hq
  | ownD ks xs => obtain ⟨q', vs, ev, _, hp, _⟩ := z; cases ev; rw [hp] at hq; cases hq
  | ownO q' C ns xs => obtain ⟨ev, dx, fs, _, hp, _⟩ := z; cases ev; rw [hp] at hq; cases hq
  | _ => cases a
/-- a new thing that nothing else holds comes into a slot -/
theorem Stn.putNew (c : Stn K et ce Hs H0s σ H H0 Γ) (st : Step H H0 H' G) (i : Nat) {p : Addr} {s : Slot} (hn : H p = none) (h : Holds K et ce Hs H' G (some (some (.ref p))) s) :
    Stn K et ce Hs H0s (σ.set i (some (.ref p))) H' G (Γ.set i s) := by
  have c' := c.step st
  refine ⟨c.z, c'.st, by simpa using c.len, fun j t e => ?_, fun j k t u q ej ek aj ak hj hk => ?_⟩
  · by_cases hj : i = j
    · subst hj
      have hi := get_lt e
      rw [List.getElem?_set_self hi] at e
      cases e
      rw [List.getElem?_set_self (Nat.lt_of_lt_of_le hi c.len)]
      exact h
    · rw [List.getElem?_set_ne hj] at e ⊢
      exact c'.at_ j t e
  · have other : ∀ {k : Nat} {u : Slot}, i ≠ k → (Γ.set i s)[k]? = some u → u.alone = true → (σ.set i (some (.ref p)))[k]? = some (some (.ref p)) → False := fun {k u} ne ek ak hk => by
      rw [List.getElem?_set_ne ne] at ek hk
      obtain ⟨o, ho, _⟩ := c.tracked ek ak hk
      rw [hn] at ho; cases ho
    by_cases nj : i = j
    · by_cases nk : i = k
      · exact nj.symm.trans nk
      · subst nj
        have hi := get_lt ej
        rw [List.getElem?_set_self (Nat.lt_of_lt_of_le hi c.len)] at hj
        cases hj
        exact (other nk ek ak hk).elim
    · by_cases nk : i = k
      · subst nk
        have hi := get_lt ek
        rw [List.getElem?_set_self (Nat.lt_of_lt_of_le hi c.len)] at hk
        cases hk
        exact (other nj ej aj hj).elim
      · rw [List.getElem?_set_ne nj] at ej hj
        rw [List.getElem?_set_ne nk] at ek hk
        exact c.one j k t u q ej ek aj ak hj hk
/-- a thing that stands alone in a slot is written -/
theorem Stn.write (c : Stn K et ce Hs H0s σ H H0 Γ) {i : Nat} {s t : Slot} {p : Addr} {o : HO} (e : Γ[i]? = some s) (a : s.alone = true) (v : σ[i]? = some (some (.ref p))) (hs : Hs p = none)
    (h : Holds K et ce Hs (upd H p o) H0 (some (some (.ref p))) t) : Stn K et ce Hs H0s σ (upd H p o) H0 (Γ.set i t) := by
  obtain ⟨o0, hp, h0⟩ := c.tracked e a v
  have sub : Same H0 (upd H p o) := fun b u q => by
    rw [upd_ne (fun z => by rw [z, h0] at q; cases q)]
    exact c.sub b u q
  refine ⟨c.z, ⟨fun b u q => ?_, c.st.small, sub, c.st.apart⟩, by simpa using c.len, fun j u e' => ?_, fun j k u w q ej ek aj ak hj hk => ?_⟩
  · rw [upd_ne (fun z => by rw [z, hs] at q; cases q)]
    exact c.st.big b u q
  · by_cases hj : i = j
    · subst hj
      rw [List.getElem?_set_self (get_lt e')] at e'
      cases e'
      rw [v]
      exact h
    · rw [List.getElem?_set_ne hj] at e'
      have z := c.at_ j u e'
      have ne : ∀ {q : Addr}, u.alone = true → σ[j]? = some (some (.ref q)) → q ≠ p := fun {q} au hq z => by
        subst z
        exact hj (c.one i j s u q e e' a au v hq)
      cases u with
      | un => cases σ[j]? <;> trivial
      | sh d =>
        match hv : σ[j]?, z with
        | some (some w), z => exact z
      | own xs =>
        match hv : σ[j]?, z with
        | some (some w), ⟨q, vs, ew, hsq, hq, h0q, r⟩ =>
          subst ew
          exact ⟨q, vs, rfl, hsq, by rw [upd_ne (ne rfl hv)]; exact hq, h0q, r⟩
      | ownD ks xs =>
        match hv : σ[j]?, z with
        | some (some w), ⟨q, vs, ew, hsq, hq, h0q, r⟩ =>
          subst ew
          exact ⟨q, vs, rfl, hsq, by rw [upd_ne (ne rfl hv)]; exact hq, h0q, r⟩
      | ownO q C ns xs =>
        match hv : σ[j]?, z with
        | some (some w), ⟨ew, dx, fs, hsq, hq, h0q, r⟩ =>
          subst ew
          exact ⟨rfl, dx, fs, hsq, by rw [upd_ne (ne rfl hv)]; exact hq, h0q, r⟩
      | er x d =>
        match hv : σ[j]?, z with
        | some (some w), z => exact z
      | lk ks xs =>
        match hv : σ[j]?, z with
        | some (some w), ⟨q, od, kvs, e1, ew, hq, h0q, k, r⟩ => exact ⟨q, od, kvs, e1, ew, by rw [upd_ne (c.unfrz e a v hq)]; exact hq, h0q, k, r⟩
  · have old : ∀ {k : Nat} {w : Slot}, (Γ.set i t)[k]? = some w → w.alone = true → ∃ w', Γ[k]? = some w' ∧ (i ≠ k → w' = w) := fun {k w} ek _ => by
      by_cases nk : i = k
      · subst nk
        exact ⟨s, e, fun z => absurd rfl z⟩
      · rw [List.getElem?_set_ne nk] at ek
        exact ⟨w, ek, fun _ => rfl⟩
    by_cases nj : i = j
    · by_cases nk : i = k
      · exact nj.symm.trans nk
      · subst nj
        rw [List.getElem?_set_ne nk] at ek
        exact c.one i k s w q e ek a ak hj hk
    · by_cases nk : i = k
      · subst nk
        rw [List.getElem?_set_ne nj] at ej
        exact c.one j i u s q ej e aj a hj hk
      · rw [List.getElem?_set_ne nj] at ej
        rw [List.getElem?_set_ne nk] at ek
        exact c.one j k u w q ej ek aj ak hj hk
end
/-- a thing that stood alone is shared from here on -/
def frz (i : Nat) (Γ : En) : En := match Γ[i]? with
  | some (.own xs) => Γ.set i (.sh (.lst xs))
  | some (.ownD ks xs) => Γ.set i (.sh (.dic ks xs))
  | _ => Γ
section
variable {X : Cx} {et : ET} {ce : Caught} {W : WX} {st : Stmt} {sts : List Stmt} {e a b : Expr} {es : List Expr} {m ma mb : En → Res D} {mt : En → Res Bool} {pos : Pos} {ms mr : En → Out}
theorem ds_setF {i : Nat} {m : En → Res (List D)} (hp : ∀ te, PE X e te → PS X st (tAsg te (gName i))) (h : DF X et ce W e m) : DS X et ce W st (mSetF i m) := by
  obtain ⟨t, p, ge⟩ := h
  refine ⟨_, hp t p, fun Hs H0s σ H H0 Γ E c q => ge _ _ _ _ _ _ _ c ?_⟩
  refine PostS.to c q fun xs v H' G _ s ⟨p, vs, ev, hn, hp', h0, r⟩ q => ?_
  subst ev
  exact q _ H' G (c.putNew s i hn ⟨p, vs, rfl, c.none_of hn, hp', h0, r⟩) s.small
def mRet (m : En → Res D) (Γ : En) : Out := mTo (m Γ) Γ fun d => .rt (.sh d)
def mRetF (m : En → Res (List D)) (Γ : En) : Out := mTo (m Γ) Γ fun d => .rt (.own d)
/-- return of a name whose thing nothing else holds -/
def mRetO (i : Nat) (Γ : En) : Out := match Γ[i]? with
  | some (.own xs) => .rt (.own xs)
  | some (.ownD ks xs) => .rt (.ownD ks xs)
  | some (.sh d) => .rt (.sh d)
  | _ => .stuck
theorem ds_ret (h : DE X et ce W e m) : DS X et ce W (.Return (some e) pos) (mRet m) := by
  obtain ⟨t, p, ge⟩ := h
  refine ⟨_, ps_ret p, fun Hs H0s σ H H0 Γ E c q => ge _ _ _ _ _ _ _ c ?_⟩
  exact PostS.to c q fun d v H' G _ s r q => q v H' G (c.st.trans s) r
theorem ds_retF {m : En → Res (List D)} (h : DF X et ce W e m) : DS X et ce W (.Return (some e) pos) (mRetF m) := by
  obtain ⟨t, p, ge⟩ := h
  refine ⟨_, ps_ret p, fun Hs H0s σ H H0 Γ E c q => ge _ _ _ _ _ _ _ c ?_⟩
  exact PostS.to c q fun xs v H' G _ s ⟨p, vs, ev, hn, hp', h0, r⟩ q => q v H' G (c.st.trans s) ⟨p, vs, ev, c.none_of hn, hp', h0, r⟩
theorem ds_retO {i : Nat} (h : PE X e (tVar i)) : DS X et ce W (.Return (some e) pos) (mRetO i) := by
  refine ⟨_, ps_ret h, fun Hs H0s σ H H0 Γ E c q => ?_⟩
  unfold mRetO at q
  split at q
  · rename_i xs e
    have z := c.at_ i _ e
    match hv : σ[i]?, z with
    | some (some v), z => exact ⟨v, hv, q v H H0 c.st z⟩
  · rename_i ks xs e
    have z := c.at_ i _ e
    match hv : σ[i]?, z with
    | some (some v), z => exact ⟨v, hv, q v H H0 c.st z⟩
  · rename_i d e
    have z := c.at_ i _ e
    match hv : σ[i]?, z with
    | some (some v), z => exact ⟨v, hv, q v H H0 c.st z⟩
  · exact q.elim
def mIf (mt : En → Res Bool) (ms mr : En → Out) (Γ : En) : Out := mTo (mt Γ) Γ fun b => if b = true then ms Γ else mr Γ
theorem ds_if {c : Expr} {x y : List Stmt} (hc : DT X et ce W c mt) (ha : DSs X et ce W x ms) (hb : DSs X et ce W y mr) : DS X et ce W (.If c x y pos) (mIf mt ms mr) := by
  obtain ⟨t, p, g⟩ := hc
  obtain ⟨t1, p1, g1⟩ := ha
  obtain ⟨t2, p2, g2⟩ := hb
  refine ⟨_, ps_if p p1 p2, fun Hs H0s σ H H0 Γ E c q => g _ _ _ _ _ _ _ c ?_⟩
  refine PostS.to c q fun b b' H' G _ s r q => ?_
  cases (r : b' = b)
  cases b with
  | true => exact iteT (g1 _ _ _ _ _ _ _ (c.step s) (q.up s.small))
  | false => exact iteF (g2 _ _ _ _ _ _ _ (c.step s) (q.up s.small))
def mApp (i : Nat) (m : En → Res D) (Γ : En) : Out := match Γ[i]? with
  | some (.own xs) => mTo (m Γ) Γ fun d => if xs.length < 1000000 then .nx (Γ.set i (.own (xs ++ [d]))) else .stuck
  | _ => .stuck
theorem big_line {n : Nat} (h : n < 1000000) : n < sizeLine := by rw [sizeLine_eq]; omega
theorem ds_app {i : Nat} (hp : ∀ te, PE X e te → PS X st (tDrop (tBM X.K "list" rAppend (tVar i) (tCons te tNil)))) (h : DE X et ce W e m) : DS X et ce W st (mApp i m) := by
  obtain ⟨t, p, ge⟩ := h
  refine ⟨_, hp t p, fun Hs H0s σ H H0 Γ E c q => ?_⟩
  unfold mApp at q
  split at q
  · rename_i xs e
    have z := c.at_ i _ e
    match hv : σ[i]?, z with
    | some (some v), ⟨p, vs, ev, hs, hp', h0, r⟩ =>
      subst ev
      refine ⟨_, hv, .inl ⟨rfl, vs, SqL.of hp'⟩, ge _ _ _ _ _ _ _ c (PostS.to c q fun d v H' G _ s rv q => ?_)⟩
      have c' := c.step s
      have hp2 := s.big _ _ hp'
      split at q
      · rename_i hl
        refine ⟨p, vs, v, rfl, rfl, hp2, big_line (by rw [r.len]; exact hl), ?_⟩
        exact q _ _ G (c'.write e rfl hv hs ⟨p, vs ++ [v], rfl, hs, upd_same, s.apart _ _ hp' h0, (r.same s.small).app (.cons rv .nil)⟩) s.small
      · exact q.elim
  · exact q.elim
/-- x op= e -/
def mAug (i : Nat) (g : D → D → Option Giv) (m : En → Res D) (Γ : En) : Out := mTo (getS Γ i) Γ fun x => mTo (m Γ) Γ fun y => mTo (toR (g x y)) Γ fun d => .nx (Γ.set i (.sh d))
theorem ds_aug {i : Nat} {g : D → D → Option Giv} (hp : ∀ te, PE X e te → PS X st (tAug i te (r2D X.K g))) (h : DE X et ce W e m) : DS X et ce W st (mAug i g m) := by
  obtain ⟨t, p, ge⟩ := h
  refine ⟨_, hp t p, fun Hs H0s σ H H0 Γ E c q => ?_⟩
  unfold mAug at q
  cases hx : getS Γ i with
  | exc x d =>
    unfold getS at hx
    split at hx <;> cases hx
  | stuck => rw [hx] at q; exact q.elim
  | ok x =>
    rw [hx] at q
    unfold getS at hx
    split at hx
    · rename_i d e
      cases hx
      have z := c.at_ i _ e
      match hv : σ[i]?, z with
      | some (some v), z =>
        refine ⟨v, hv, ge _ _ _ _ _ _ _ c (PostS.to c q fun y vy H' G _ s ry q => ?_)⟩
        have c' := c.step s
        have zr : Rep X.K G v x := Rep.same s.small z
        refine ⟨G, x, y, s.sub, zr.toO s.sub, Rep.toO s.sub ry, asked (W := W) (et := et) (σ := σ) s.sub (PostS.to c' (q.up s.small) fun w vw H2 G2 _ s2 rw q => ?_)⟩
        exact q _ _ G2 ((c'.step s2).put i rw) s2.small
    · cases hx
def mPar (i j : Nat) (ms : En → Res (List D)) (Γ : En) : Out := mTo (ms Γ) Γ fun ds => match ds with
  | [x, y] => .nx ((Γ.set i (.sh x)).set j (.sh y))
  | _ => .stuck
theorem ds_par {i j : Nat} {ms : En → Res (List D)} (hp : ∀ ta, PA X es ta → PS X st (tPar i j ta)) (h : DA X et ce W es ms) : DS X et ce W st (mPar i j ms) := by
  obtain ⟨t, p, ge⟩ := h
  refine ⟨_, hp t p, fun Hs H0s σ H H0 Γ E c q => ge _ _ _ _ _ _ _ c (PostS.to c q fun ds vs H' G _ s r q => ?_)⟩
  match ds, (show RepAll X.K G vs ds from r), q with
  | [x, y], .cons r1 (.cons r2 .nil), q => exact ⟨_, _, rfl, q _ _ G (((c.step s).put i r1).put j r2) s.small⟩
def whileM (mt : En → Res Bool) (ms : En → Out) : Nat → En → Out
  | 0, _ => .stuck
  | n + 1, Γ => mTo (mt Γ) Γ fun b => if b = true then (match ms Γ with
    | .nx Γ' => whileM mt ms n Γ'
    | .ct Γ' => whileM mt ms n Γ'
    | .bk Γ' => .nx Γ'
    | o => o) else .nx Γ
theorem ds_while {c : Expr} {body : List Stmt} (n : Nat) (hp : PassesOwn (model X.prog X.w) X.A X.env X.xe) (hc : DT X et ce W c mt) (hb : DSs X et ce W body ms) : DS X et ce W (.While c body [] pos) (whileM mt ms n) := by
  obtain ⟨tc, pc, gc⟩ := hc
  obtain ⟨tb, pb, gb⟩ := hb
  refine ⟨_, ps_while hp pc pb, fun Hs H0s σ H H0 Γ E c q => ?_⟩
  refine ⟨fun m σ H => ∃ G Γ, Stn X.K et ce Hs H0s σ H G Γ ∧ Same H0 G ∧ PostS X.K et ce W Hs H0s G E (whileM mt ms m Γ), ⟨n, H0, Γ, c, Same.refl _, q⟩, ?_⟩
  rintro m σ1 H1 ⟨G, Γ1, c1, s1, q1⟩
  cases m with
  | zero => exact q1.elim
  | succ m =>
    refine gc _ _ _ _ _ _ _ c1 (PostS.to c1 q1 fun b b' H' G' _ s r q => ?_)
    cases (r : b' = b)
    cases b with
    | false => exact iteF (q _ _ G' (c1.step s) s.small)
    | true =>
      refine iteT ⟨fun σ' H' => ∃ G2 Γ2, Stn X.K et ce Hs H0s σ' H' G2 Γ2 ∧ Same H0 G2 ∧ PostS X.K et ce W Hs H0s G2 E (whileM mt ms m Γ2), fun σ' H' z => ⟨m, Nat.lt_succ_self m, z⟩, gb _ _ _ _ _ _ _ (c1.step s) ?_⟩
      have sG := Same.trans s1 s.small
      have q := q.up s.small
      rw [if_pos rfl] at q
      revert q
      cases ms Γ1 with
      | nx Γ' => exact fun q σ' H2 G2 c2 s2 => ⟨G2, Γ', c2, Same.trans sG s2, q.up s2⟩
      | ct Γ' => exact fun q σ' H2 G2 c2 s2 => ⟨G2, Γ', c2, Same.trans sG s2, q.up s2⟩
      | bk Γ' => exact fun q => q
      | rt s => exact fun q => q
      | exc x d Γ' => exact fun q => q
      | stuck => exact fun q => q
structure Walks (K : PySem.W.Frag) (J : It) (H0l : Hp) (ds : List D) : Prop where
  go : ∀ i H G, i < ds.length → Same H0l G → Same G H → J.go i H ∧ ∀ x H', J.yld i H x H' → ∃ G' d, ds[i]? = some d ∧ Step H G H' G' ∧ Rep K G' x d
  stop : ∀ i H G, ds.length ≤ i → Same H0l G → Same G H → J.stop i H
def RI (K : PySem.W.Frag) : Rl (List D) It := fun _ _ H0 J ds => Walks K J H0 ds
structure DI (X : Cx) (et : ET) (ce : Caught) (W : WX) (tg e : Expr) (m : En → Res (List D)) : Prop where ex : ∃ t, PI X tg e t ∧ Good X.K et ce W (RI X.K) t m
theorem walks_list {K : PySem.W.Frag} {H0 : Hp} {a : Addr} {vs : List V} {ds : List D} (hs : ∀ G H, Same H0 G → Same G H → SqL K H a vs) (r : RepAll K H0 vs ds) : Walks K (Itl K a) H0 ds := by
  constructor
  · intro i H G hi s1 s2
    have hl := hs G H s1 s2
    have hd : ds[i]? = some ds[i] := by simp [hi]
    obtain ⟨v, hv, rv⟩ := r.get hd
    refine ⟨⟨vs, v, hl, hv⟩, fun x H' y => ?_⟩
    obtain ⟨e, y⟩ := y
    subst e
    have := y vs hl
    rw [hv] at this
    cases this
    exact ⟨G, _, hd, Step.refl s2, rv.same s1⟩
  · intro i H G hi s1 s2
    exact ⟨vs, hs G H s1 s2, by rw [r.len]; exact hi⟩
end
end DL
namespace DL
open PySem L2 PySem.Spec PyProof.Rows GL
section
variable {X : Cx} {et : ET} {ce : Caught} {W : WX} {st : Stmt} {sts : List Stmt} {e a b tg : Expr} {es : List Expr} {m ma mb : En → Res D} {mt : En → Res Bool} {mi : En → Res (List D)} {mg : D → En → Option En} {vs : List Nat} {pos : Pos} {ms mr : En → Out}
def forM (mg : D → En → Option En) (ms : En → Out) : List D → En → Out
  | [], Γ => .nx Γ
  | x :: r, Γ => match mg x Γ with
    | none => .stuck
    | some Γ1 => match ms Γ1 with
      | .nx Γ' => forM mg ms r Γ'
      | .ct Γ' => forM mg ms r Γ'
      | .bk Γ' => .nx Γ'
      | o => o
def mFor (mi : En → Res (List D)) (mg : D → En → Option En) (ms : En → Out) (Γ : En) : Out := mTo (mi Γ) Γ fun xs => forM mg ms xs Γ
theorem ds_for {body : List Stmt} {g : TG} (hp : PassesOwn (model X.prog X.w) X.A X.env X.xe) (hc : X.calm = true) (hi : DI X et ce W tg e mi) (pg : PG X tg g) (hg : GoodG X.K et ce vs g mg) (hb : DSs X et ce W body ms)
    (hs : ∀ x, foldedSetIterable e X.env x = pure x := by intro _; rfl) : DS X et ce W (.For tg e body [] pos) (mFor mi mg ms) := by
  obtain ⟨ti, pi, gi⟩ := hi
  obtain ⟨tb, pb, gb⟩ := hb
  refine ⟨_, ps_for hp hc pi pg pb hs, fun Hs H0s σ H H0 Γ E c q => gi _ _ _ _ _ _ _ c (PostS.to c q fun ds J H1 G1 _ s wk q => ?_)⟩
  have wk : Walks X.K J G1 ds := wk
  refine ⟨fun i m σ H => i ≤ ds.length ∧ m = ds.length - i ∧ ∃ G Γ, Stn X.K et ce Hs H0s σ H G Γ ∧ Same G1 G ∧ PostS X.K et ce W Hs H0s G E (forM mg ms (ds.drop i) Γ),
    ⟨ds.length, Nat.zero_le _, rfl, G1, Γ, c.step s, Same.refl _, q.up s.small⟩, ?_⟩
  rintro i n σ1 H2 ⟨hi, rfl, G, Γ1, c1, s1, q1⟩
  by_cases hlt : i < ds.length
  · obtain ⟨go, yld⟩ := wk.go i H2 G hlt s1 c1.sub
    refine .inr ⟨go, fun σ' H' => ∃ G' Γ', Stn X.K et ce Hs H0s σ' H' G' Γ' ∧ Same G1 G' ∧ PostS X.K et ce W Hs H0s G' E (forM mg ms (ds.drop (i + 1)) Γ'),
      fun σ' H' z => ⟨ds.length - (i + 1), by omega, hlt, rfl, z⟩, fun x H' y => ?_⟩
    obtain ⟨G', d, hd, s2, rx⟩ := yld x H' y
    have he : ds.drop i = d :: ds.drop (i + 1) := by
      rw [List.drop_eq_getElem_cons hlt]
      congr 1
      rw [List.getElem?_eq_getElem hlt] at hd
      exact Option.some.inj hd
    rw [he] at q1
    unfold forM at q1
    cases hm : mg d Γ1 with
    | none => rw [hm] at q1; exact q1.elim
    | some Γ2 =>
      rw [hm] at q1
      refine hg.go _ _ _ _ _ _ _ _ _ _ (c1.step s2) rx hm fun σ2 _ c2 => gb _ _ _ _ _ _ _ c2 ?_
      have q2 := q1.up s2.small
      have s3 := Same.trans s1 s2.small
      revert q2
      dsimp only
      cases ms Γ2 with
      | nx Γ' => exact fun q σ' H2 G2 c2 z => ⟨G2, Γ', c2, Same.trans s3 z, q.up z⟩
      | ct Γ' => exact fun q σ' H2 G2 c2 z => ⟨G2, Γ', c2, Same.trans s3 z, q.up z⟩
      | bk Γ' => exact fun q => q
      | rt s => exact fun q => q
      | exc x d Γ' => exact fun q => q
      | stuck => exact fun q => q
  · have e : i = ds.length := by omega
    subst e
    rw [List.drop_length] at q1
    exact .inl ⟨wk.stop _ H2 G (Nat.le_refl _) s1 c1.sub, q1 _ _ G c1 (Same.refl _)⟩
def wipeE (Γ : En) : List Nat → En
  | [] => Γ
  | v :: vs => (wipeE Γ vs).set v .un
theorem Stn.wipe {K : PySem.W.Frag} {Hs H0s H H0 : Hp} {σ : L2.St} {Γ : En} (c : Stn K et ce Hs H0s σ H H0 Γ) : ∀ vs : List Nat, Stn K et ce Hs H0s (L2.wipe σ vs) H H0 (wipeE Γ vs)
  | [] => c
  | v :: vs => (c.wipe vs).forget v none
theorem wipe_at {σ : L2.St} : ∀ {vs : List Nat} {j : Nat}, j ∉ vs → (L2.wipe σ vs)[j]? = σ[j]?
  | [], _, _ => rfl
  | v :: vs, j, h => by
    have h1 : v ≠ j := fun z => h (by simp [z])
    show ((L2.wipe σ vs).set v none)[j]? = _
    rw [List.getElem?_set_ne h1]
    exact wipe_at fun z => h (by simp [z])
theorem wipe_in {σ : L2.St} : ∀ {vs : List Nat} {j : Nat}, j ∈ vs → (L2.wipe σ vs)[j]? = if j < σ.length then some none else none
  | v :: vs, j, h => by
    show ((L2.wipe σ vs).set v none)[j]? = _
    by_cases e : v = j
    · subst e
      by_cases hl : v < σ.length
      · rw [List.getElem?_set_self (by rw [wipe_length]; exact hl), if_pos hl]
      · rw [List.getElem?_eq_none (by rw [List.length_set, wipe_length]; omega), if_neg hl]
    · rw [List.getElem?_set_ne e]
      exact wipe_in (by simpa [Ne.symm e] using h)
theorem wipe_only {σ τ : L2.St} {vs : List Nat} (h : OnlyAt vs (L2.wipe σ vs) τ) : L2.wipe τ vs = L2.wipe σ vs := by
  have hl : τ.length = σ.length := by rw [h.1, wipe_length]
  apply List.ext_getElem?
  intro j
  by_cases hj : j ∈ vs
  · rw [wipe_in hj, wipe_in hj, hl]
  · rw [wipe_at hj, h.2 j hj]
/-- within a block nothing may be raised -/
def noX {α : Type} : Res α → Res α
  | .ok a => .ok a
  | _ => .stuck
abbrev W0 : WX := fun _ _ _ _ => False
def compM (mg : D → En → Option En) (mt : En → Res Bool) (m : En → Res D) (Γ : En) : List D → Res (List D)
  | [] => .ok []
  | x :: r => match mg x Γ with
    | none => .stuck
    | some Γ1 => (noX (mt Γ1)).bind fun b => if b = true then (noX (m Γ1)).bind fun d => (compM mg mt m Γ r).bind fun ds => .ok (d :: ds) else compM mg mt m Γ r
/-- every other form of a reading -/
def tEM {α β : Type} (K : PySem.W.Frag) (et : ET) (ce : Caught) (W : WX) (R : Rl α β) (m : En → Res α) : L2.St → Hp → (β → Hp → Prop) → Prop := fun σ H Q =>
  ∃ Hs H0s H0 Γ, Stn K et ce Hs H0s σ H H0 Γ ∧ Post K et W R σ H H0 Q (m Γ)
def tM (K : PySem.W.Frag) (et : ET) (ce : Caught) (W : WX) (m : En → Out) : TS := fun E σ H => ∃ Hs H0s H0 Γ, Stn K et ce Hs H0s σ H H0 Γ ∧ PostS K et ce W Hs H0s H0 E (m Γ)
theorem DE.can (h : DE X et ce W e m) : PE X e (tEM X.K et ce W (RD X.K) m) := by
  obtain ⟨t, p, g⟩ := h
  exact ⟨fun pins s σ H Q I ⟨Hs, H0s, H0, Γ, c, q⟩ => p.run pins s σ H Q I (g _ _ _ _ _ _ _ c q)⟩
theorem DT.can (h : DT X et ce W e mt) : PT X e (tEM X.K et ce W RB mt) := by
  obtain ⟨t, p, g⟩ := h
  exact ⟨fun pins s σ H Q I ⟨Hs, H0s, H0, Γ, c, q⟩ => p.run pins s σ H Q I (g _ _ _ _ _ _ _ c q)⟩
theorem DSs.can (h : DSs X et ce W sts ms) : PSs X sts (tM X.K et ce W ms) := by
  obtain ⟨t, p, g⟩ := h
  exact ⟨fun pins s σ H E I ⟨Hs, H0s, H0, Γ, c, q⟩ => p.run pins s σ H E I (g _ _ _ _ _ _ _ c q)⟩
theorem post_noX {α β : Type} {K : PySem.W.Frag} {R : Rl α β} {σ : L2.St} {H H0 : Hp} {Q : β → Hp → Prop} {r : Res α} {a : α} (h : noX r = .ok a) (q : ∀ b H' G, Step H H0 H' G → R H H' G b a → Q b H') : Post K et W0 R σ H H0 Q r := by
  cases r with
  | ok a' => cases h; exact q
  | exc x d => cases h
  | stuck => cases h
/-- a comprehension's tests -/
structure DTs (X : Cx) (et : ET) (ce : Caught) (ifs : List Expr) (mt : En → Res Bool) : Prop where ex : PTs X ifs (tEM X.K et ce W0 RB mt)
theorem dts_nil : DTs X et ce [] (fun _ => .ok true) :=
  ⟨⟨fun pins s σ H Q I ⟨Hs, H0s, H0, Γ, c, q⟩ => pts_nil.run pins s σ H Q I (q true H H0 (Step.refl c.sub) rfl)⟩⟩
theorem dts_one {c : Expr} (h : DT X et ce W0 c mt) : DTs X et ce [c] mt := ⟨pts_one h.can⟩
def mComp (vs : List Nat) (mi : En → Res (List D)) (mg : D → En → Option En) (mt : En → Res Bool) (m : En → Res D) (Γ : En) : Res (List D) := (mi Γ).bind fun xs => need (xs.length < 1000000) (compM mg mt m (wipeE Γ vs) xs)
theorem good_comp {wi : TI} {g : TG} (gi : Good X.K et ce W (RI X.K) wi mi) (hg : GoodG X.K et ce vs g mg) :
    Good X.K et ce W (RF X.K) (tLc wi g (tEM X.K et ce W0 RB mt) (tEM X.K et ce W0 (RD X.K) m) vs) (mComp vs mi mg mt m) := by
  intro Hs H0s σ H H0 Γ Q c q
  refine gi _ _ _ _ _ _ _ c (Post.next q fun ds J H1 G1 _ s wk q => ?_)
  have wk : Walks X.K J G1 ds := wk
  obtain ⟨hsz, q⟩ := need_if q
  intro L hL
  -- the end is reached
  cases hc : compM mg mt m (wipeE Γ vs) ds with
  | exc x d =>
    exfalso
    clear q
    have : ∀ (ds : List D) x d, compM mg mt m (wipeE Γ vs) ds ≠ .exc x d := by
      intro ds
      induction ds with
      | nil => intro x d z; cases z
      | cons y r ih =>
        intro x d z
        unfold compM at z
        split at z
        · cases z
        · rename_i Γ1 _
          cases h1 : noX (mt Γ1) with
          | exc x2 d2 => cases h2 : mt Γ1 <;> rw [h2] at h1 <;> cases h1
          | stuck => rw [h1] at z; cases z
          | ok bb =>
            rw [h1] at z
            simp only [Res.bind] at z
            split at z
            · cases h3 : noX (m Γ1) with
              | exc x2 d2 => cases h2 : m Γ1 <;> rw [h2] at h3 <;> cases h3
              | stuck => rw [h3] at z; cases z
              | ok dd =>
                rw [h3] at z
                cases h4 : compM mg mt m (wipeE Γ vs) r with
                | ok _ => rw [h4] at z; cases z
                | stuck => rw [h4] at z; cases z
                | exc x3 d3 => exact ih _ _ h4
            · exact ih _ _ z
    exact this _ _ _ hc
  | stuck => rw [hc] at q; exact q.elim
  | ok out =>
    rw [hc] at q
    have hL0 : G1 L = none := none_sub s.sub hL
    have c1 := c.step s
    refine ⟨fun i n H2 => i ≤ ds.length ∧ n = ds.length - i ∧ ∃ G acc accD rest, Step H1 G1 H2 G ∧ H2 L = some (.lst acc) ∧ G L = none ∧ RepAll X.K G acc accD ∧ accD.length ≤ i ∧
      compM mg mt m (wipeE Γ vs) (ds.drop i) = .ok rest ∧ accD ++ rest = out,
      ⟨ds.length, Nat.zero_le _, rfl, G1, [], [], out, Step.own s.sub hL, upd_same, hL0, .nil, Nat.le_refl _, hc, rfl⟩, ?_⟩
    rintro i n H2 ⟨hi, rfl, G, acc, accD, rest, sg, hacc, hG, ra, hal, hr, hout⟩
    by_cases hlt : i < ds.length
    · obtain ⟨go, yld⟩ := wk.go i H2 G hlt sg.small sg.sub
      refine .inr ⟨go, fun H3 => ∃ G acc accD rest, Step H1 G1 H3 G ∧ H3 L = some (.lst acc) ∧ G L = none ∧ RepAll X.K G acc accD ∧ accD.length ≤ i + 1 ∧
        compM mg mt m (wipeE Γ vs) (ds.drop (i + 1)) = .ok rest ∧ accD ++ rest = out, fun H3 z => ⟨ds.length - (i + 1), by omega, hlt, rfl, z⟩, fun x H3 y => ?_⟩
      obtain ⟨G3, d, hd, s3, rx⟩ := yld x H3 y
      have he : ds.drop i = d :: ds.drop (i + 1) := by
        rw [List.drop_eq_getElem_cons hlt]
        congr 1
        rw [List.getElem?_eq_getElem hlt] at hd
        exact Option.some.inj hd
      rw [he] at hr
      unfold compM at hr
      split at hr
      · cases hr
      · rename_i Γ1 hm
        have cw : Stn X.K et ce Hs H0s (L2.wipe σ vs) H3 G3 (wipeE Γ vs) := ((c1.step sg).step s3).wipe vs
        refine hg.go _ _ _ _ _ _ _ _ _ _ cw rx hm fun σ3 o3 c3 => ⟨wipe_only o3, ?_⟩
        cases h1 : noX (mt Γ1) with
        | exc x2 d2 => cases h2 : mt Γ1 <;> rw [h2] at h1 <;> cases h1
        | stuck => rw [h1] at hr; cases hr
        | ok bb =>
          rw [h1] at hr
          have hr : (if bb = true then (noX (m Γ1)).bind fun d => (compM mg mt m (wipeE Γ vs) (ds.drop (i + 1))).bind fun ds => .ok (d :: ds) else compM mg mt m (wipeE Γ vs) (ds.drop (i + 1))) = .ok rest := hr
          refine ⟨Hs, H0s, G3, Γ1, c3, post_noX h1 fun b' H4 G4 s4 eb => ?_⟩
          cases (eb : b' = bb)
          have s34 := s3.trans s4
          cases bb with
          | false =>
            rw [if_neg Bool.false_ne_true] at hr
            refine iteF ⟨G4, acc, accD, rest, sg.trans s34, s34.big _ _ hacc, s34.apart _ _ hacc hG, ra.same s34.small, Nat.le_succ_of_le hal, hr, hout⟩
          | true =>
            rw [if_pos rfl] at hr
            refine iteT ?_
            cases h3 : noX (m Γ1) with
            | exc x2 d2 => cases h2 : m Γ1 <;> rw [h2] at h3 <;> cases h3
            | stuck => rw [h3] at hr; cases hr
            | ok dd =>
              rw [h3] at hr
              refine ⟨Hs, H0s, G4, Γ1, c3.step s4, post_noX h3 fun v H5 G5 s5 rv => ?_⟩
              have hr : ((compM mg mt m (wipeE Γ vs) (ds.drop (i + 1))).bind fun ds => .ok (dd :: ds)) = .ok rest := hr
              have s345 := s34.trans s5
              have hacc5 := s345.big _ _ hacc
              have hG5 := s345.apart _ _ hacc hG
              have al : acc.length = accD.length := ra.len
              refine ⟨acc, hacc5, by rw [sizeLine_eq]; omega, ?_⟩
              cases h4 : compM mg mt m (wipeE Γ vs) (ds.drop (i + 1)) with
              | exc x2 d2 => rw [h4] at hr; cases hr
              | stuck => rw [h4] at hr; cases hr
              | ok rest2 =>
                rw [h4] at hr
                cases hr
                have sg5 := sg.trans s345
                refine ⟨G5, acc ++ [v], accD ++ [dd], rest2, ⟨fun b o q => ?_, sg5.small, fun b o q => ?_, sg5.apart⟩, upd_same, hG5, (ra.same s345.small).app (.cons rv .nil), by simp; omega, rfl, by simp [← hout]⟩
                · rw [upd_ne (fun z => by rw [z, hL] at q; cases q)]
                  exact sg5.big b o q
                · rw [upd_ne (fun z => by rw [z, hG5] at q; cases q)]
                  exact sg5.sub b o q
    · have e : i = ds.length := by omega
      subst e
      rw [List.drop_length] at hr
      cases hr
      refine .inl ⟨wk.stop _ H2 G (Nat.le_refl _) sg.small sg.sub, ?_⟩
      rw [List.append_nil] at hout
      subst hout
      exact q _ H2 G (s.trans sg) ⟨L, acc, rfl, none_sub s.big hL, hacc, hG, ra⟩
end
end DL
namespace DL
open PySem L2 PySem.Spec PyProof.Rows GL
section
variable {X : Cx} {et : ET} {ce : Caught} {W : WX} {st : Stmt} {sts : List Stmt} {e a b tg : Expr} {es : List Expr} {m ma mb : En → Res D} {mt : En → Res Bool} {mi : En → Res (List D)} {mg : D → En → Option En} {vs : List Nat} {pos : Pos} {ms mr : En → Out}
def mRaise (x : String) (m : En → Res D) (Γ : En) : Out := mTo (m Γ) Γ fun d => .exc x d Γ
theorem ds_raise {x : String} {C : Addr} {fld : Str} (hx : et x = some (C, fld)) (hp : ∀ ta, PA X [a] ta → PS X st (tRaiseErr C fld W ta)) (h : DE X et ce W a m) (hst : starEach (a :: []) X.env = (false, eval a X.env) :: starEach [] X.env := by rfl) : DS X et ce W st (mRaise x m) := by
  obtain ⟨t, p, g⟩ := h
  refine ⟨_, hp _ (pa_cons p pa_nil hst), fun Hs H0s σ H H0 Γ E c q => g _ _ _ _ _ _ _ c (PostS.to c q fun d v H' G _ s r q => ?_)⟩
  refine ⟨v, rfl, fun dd n => ?_⟩
  have s2 := s.trans (Step.new (o := .xd [(fld, v)]) s.sub n)
  exact q C fld dd v σ _ _ hx (c.step s2) s2.small upd_same (Rep.same (same_upd' (Same.refl _) (none_sub s.sub n)) r)
/-- no caught error is known any more -/
def cleanS : Slot → Slot
  | .er _ _ => .un
  | .lk _ _ => .un
  | s => s
def clean (Γ : En) : En := Γ.map cleanS
theorem Stn.clean {K : PySem.W.Frag} {Hs H0s H H0 : Hp} {σ : L2.St} {Γ : En} (c : Stn K et ce Hs H0s σ H H0 Γ) : Stn K et none Hs H0s σ H H0 (clean Γ) := by
  have of : ∀ {i : Nat} {s : Slot}, (DL.clean Γ)[i]? = some s → ∃ s', Γ[i]? = some s' ∧ s = cleanS s' := fun {i s} e => by
    unfold DL.clean at e
    rw [List.getElem?_map] at e
    cases h : Γ[i]? with
    | none => rw [h] at e; cases e
    | some s' => rw [h] at e; cases e; exact ⟨s', rfl, rfl⟩
  refine ⟨c.z, c.st, by unfold DL.clean; simpa using c.len, fun i s e => ?_, fun i j s t p ei ej ai aj hi hj => ?_⟩
  · obtain ⟨s', e', rfl⟩ := of e
    have z := c.at_ i s' e'
    cases s' with
    | er x d => cases σ[i]? <;> trivial
    | lk ks xs => cases σ[i]? <;> trivial
    | un => cases σ[i]? <;> trivial
    | sh d =>
      match hv : σ[i]?, z with
      | some (some v), z => exact z
    | own xs =>
      match hv : σ[i]?, z with
      | some (some v), z => exact z
    | ownD ks xs =>
      match hv : σ[i]?, z with
      | some (some v), z => exact z
    | ownO q C ns xs =>
      match hv : σ[i]?, z with
      | some (some v), z => exact z
  · obtain ⟨s', es', rfl⟩ := of ei
    obtain ⟨t', et', rfl⟩ := of ej
    exact c.one i j s' t' p es' et' (by cases s' <;> first | rfl | cases ai) (by cases t' <;> first | rfl | cases aj) hi hj
/-- the error is caught: a suite may speak of it -/
theorem Stn.catch_ {K : PySem.W.Frag} {Hs H0s H H0 : Hp} {σ : L2.St} {Γ : En} (c : Stn K et none Hs H0s σ H H0 Γ) (ce : Caught) : Stn K et ce Hs H0s σ H H0 Γ := by
  refine ⟨c.z, c.st, c.len, fun i s e => ?_, c.one⟩
  have z := c.at_ i s e
  cases s with
  | er x d =>
    match hv : σ[i]?, z with
    | some (some v), ⟨_, _, _, _, _, h, _⟩ => cases h
  | lk ks xs =>
    match hv : σ[i]?, z with
    | some (some v), ⟨_, _, _, h, _⟩ => cases h
  | un => cases σ[i]? <;> trivial
  | sh d =>
    match hv : σ[i]?, z with
    | some (some v), z => exact z
  | own xs =>
    match hv : σ[i]?, z with
    | some (some v), z => exact z
  | ownD ks xs =>
    match hv : σ[i]?, z with
    | some (some v), z => exact z
  | ownO q C ns xs =>
    match hv : σ[i]?, z with
    | some (some v), z => exact z
theorem Stn.putErr {K : PySem.W.Frag} {Hs H0s H H0 : Hp} {σ : L2.St} {Γ : En} {x : String} {d : D} {C dd p : Addr} {fld : Str} {w : V} (c : Stn K et (some (p, .ref C, some dd)) Hs H0s σ H H0 Γ) (i : Nat) (hx : et x = some (C, fld)) (hd : H0 dd = some (.xd [(fld, w)])) (r : Rep K H0 w d) :
    Stn K et (some (p, .ref C, some dd)) Hs H0s (σ.set i (some (.ref p))) H H0 (Γ.set i (.er x d)) := by
  have no : ∀ {j : Nat} {s : Slot}, (Γ.set i (.er x d))[j]? = some s → s.alone = true → i ≠ j := fun {j s} e a z => by
    subst z
    rw [List.getElem?_set_self (get_lt e)] at e; cases e; cases a
  refine ⟨c.z, c.st, by simpa using c.len, fun j s e => ?_, fun j k s t q ej ek aj ak hj hk => ?_⟩
  · by_cases hj : i = j
    · subst hj
      have hi := get_lt e
      rw [List.getElem?_set_self hi] at e
      cases e
      rw [List.getElem?_set_self (Nat.lt_of_lt_of_le hi c.len)]
      exact ⟨p, C, fld, dd, w, rfl, hx, rfl, hd, r⟩
    · rw [List.getElem?_set_ne hj] at e ⊢
      exact c.at_ j s e
  · have nj := no ej aj
    have nk := no ek ak
    rw [List.getElem?_set_ne nj] at ej hj
    rw [List.getElem?_set_ne nk] at ek hk
    exact c.one j k s t q ej ek aj ak hj hk
/-- behind a suite its name is gone -/
def behind (i : Nat) : Out → Out
  | .nx Γ => .nx ((clean Γ).set i .un)
  | .bk Γ => .bk ((clean Γ).set i .un)
  | .ct Γ => .ct ((clean Γ).set i .un)
  | .rt s => .rt s
  | _ => .stuck
/-- a clause: which errors it takes, its name's slot, its suite -/
structure Clause where
  cat : String → Bool
  i : Nat
  m : En → Out
def mHandle : List Clause → String → D → En → Out
  | [], x, d, Γ => .exc x d Γ
  | h :: r, x, d, Γ => if h.cat x = true then behind h.i (h.m (Γ.set h.i (.er x d))) else mHandle r x d Γ
def mTry (mb : En → Out) (hs : List Clause) (Γ : En) : Out := match mb Γ with
  | .exc x d Γ' => mHandle hs x d Γ'
  | o => o
def clauseT (K : PySem.W.Frag) (et : ET) (c : Value) (h : Clause) : Value × Nat × (Addr → Value → Option Addr → TS) := (c, h.i, fun a cls d => tM K et (some (a, cls, d)) W0 h.m)
/-- the class c takes just these -/
def CatOk (K : PySem.W.Frag) (et : ET) (c : Value) (cat : String → Bool) : Prop := ∀ x C fld, et x = some (C, fld) → PySem.W.exmOne K (.ref C) c = some (cat x)
inductive CatsOk (K : PySem.W.Frag) (et : ET) : List Value → List Clause → Prop
  | nil : CatsOk K et [] []
  | cons {c : Value} {cs : List Value} {h : Clause} {hs : List Clause} : CatOk K et c h.cat → CatsOk K et cs hs → CatsOk K et (c :: cs) (h :: hs)
theorem post_behind {K : PySem.W.Frag} {Hs H0s H0 : Hp} {E : Ends} {W : WX} {i : Nat} {o : Out} {cf : Caught} (h : PostS K et none W Hs H0s H0 E (behind i o)) :
    PostS K et cf W0 Hs H0s H0 { nx := fun σ' H' => E.nx (σ'.set i none) H', rt := E.rt, bk := fun σ' H' => E.bk (σ'.set i none) H', ct := fun σ' H' => E.ct (σ'.set i none) H' } o := by
  cases o with
  | nx Γ => exact fun σ H G c s => h _ H G (c.clean.forget i none) s
  | bk Γ => exact fun σ H G c s => h _ H G (c.clean.forget i none) s
  | ct Γ => exact fun σ H G c s => h _ H G (c.clean.forget i none) s
  | rt s => exact h
  | exc x d Γ => exact h.elim
  | stuck => exact h.elim
theorem handle_ok {K : PySem.W.Frag} {Hs H0s H0 : Hp} {E : Ends} {x : String} {d : D} {Γ : En} : ∀ {cs : List Value} {hs : List Clause}, CatsOk K et cs hs → PostS K et none W Hs H0s H0 E (mHandle hs x d Γ) →
    PostS K et none (wNamed K W E (List.zipWith (clauseT K et) cs hs)) Hs H0s H0 E (.exc x d Γ)
  | _, _, .nil, q => q
  | _, _, @CatsOk.cons _ _ c cs h hs hc hr, q => fun C fld dd w σ H G hx cst s hd r => by
    refine ⟨h.cat x, hc x C fld hx, fun hb p hp => ?_, fun hb => ?_⟩
    · unfold mHandle at q
      rw [if_pos hb] at q
      exact ⟨Hs, H0s, G, Γ.set h.i (.er x d), (cst.catch_ _).putErr h.i hx hd r, post_behind (q.up s)⟩
    · unfold mHandle at q
      rw [if_neg (by rw [hb]; exact Bool.false_ne_true)] at q
      exact handle_ok hr q C fld dd w σ H G hx cst s hd r
theorem ds_try {body : List Stmt} {h₀ : ExceptHandler} {hds : List ExceptHandler} {cs : List Value} {hs : List Clause} (hst : X.stack = X.env :: X.outer) (hf : X.env.frame = some X.env.locals) (hN : X.N.Nodup) (tk : Takes X W)
    (hb : ∀ (W : WX) (pn : List (Addr × Obj)) (xe : Value → Shared → Prop), Takes (X.tr pn xe) W → PassesOwn (model X.prog X.w) X.A X.env xe → DSs (X.tr pn xe) et none W body ms) (hc : CatsOk X.K et cs hs)
    (hh : Named X (h₀ :: hds) (List.zipWith (clauseT X.K et) cs hs)) : DS X et none W (.Try body (h₀ :: hds) [] [] pos) (mTry ms hs) := by
  refine ⟨_, ps_try_named (tb := fun W => tM X.K et none W ms) hst hf hN tk (fun W pn xe t p => (hb W pn xe t p).can) hh, fun Hs H0s σ H H0 Γ E c q => ?_⟩
  refine ⟨Hs, H0s, H0, Γ, c, ?_⟩
  unfold mTry at q
  revert q
  cases ms Γ with
  | exc x d Γ' => exact fun q => handle_ok hc q
  | nx Γ' => exact fun q => q
  | bk Γ' => exact fun q => q
  | ct Γ' => exact fun q => q
  | rt s => exact fun q => q
  | stuck => exact fun q => q
/-- e.fld of the caught error -/
def mErrFld (i : Nat) (x : String) (Γ : En) : Res D := match Γ[i]? with
  | some (.er y d) => if y = x then .ok d else .stuck
  | _ => .stuck
theorem d_errFld {i : Nat} {x : String} {C p : Addr} {fld : Str} {cls : Value} {dd : Option Addr} (hx : et x = some (C, fld)) (hp : ∀ te, PE X a te → PE X e (tErrFld C fld p cls dd te)) (h : PE X a (tVar i)) : DE X et (some (p, cls, dd)) W e (mErrFld i x) := by
  refine ⟨_, hp _ h, fun Hs H0s σ H H0 Γ Q c q => ?_⟩
  unfold mErrFld at q
  split at q
  · rename_i y d e
    split at q
    · rename_i hy
      subst hy
      have z := c.at_ i _ e
      match hv : σ[i]?, z with
      | some (some v), ⟨a', C', fld', d', w, e1, e2, e3, e4, r⟩ =>
        rw [hx] at e2
        cases e2
        cases e1
        exact ⟨v, hv, e3, rfl, d', w, rfl, c.sub _ _ e4, q w H H0 (Step.refl c.sub) r⟩
    · exact q.elim
  · exact q.elim
theorem takesF {X : Cx} : Takes X W0 := fun _ _ ⟨_, _, _, _, _, _, _, _, _, _, _, _, _, _, _, _, w⟩ => w.elim
/-- what a def does to data -/
def spD (K : PySem.W.Frag) (et : ET) (n : Nat) (M : List D → Res Slot) : Sp := fun vs H Q E => vs.length = n ∧ ∃ H0 ds, Same H0 H ∧ RepAll K H0 vs ds ∧ match M ds with
  | .ok s => ∀ v H' G, Step H H0 H' G → Holds K et none H H' G (some (some v)) s → Q v H'
  | .exc x d => ∀ C fld dd w H' G, et x = some (C, fld) → Step H H0 H' G → G dd = some (.xd [(fld, w)]) → Rep K G w d → E (.ref C) (some dd) H'
  | .stuck => False
def tCallW (sp : Sp) (W : WX) (t : TA) : TE := fun σ H Q => t σ H fun vs H1 => sp vs H1 Q fun c d H => W c d σ H
section
variable {k : Nat} {f : Addr} {fd : FuncData} {ps : List Str} {sp : Sp} {E : L2.St → XK}
theorem runGS {pins : List (Addr × Obj)} {σ : L2.St} {H : Hp} {s : Shared} {Q : VK} {us : List Value} {vs : List V} {q : Around → Prop} (F : FnQ q X.prog X.w X.K X.mg X.base (L2.CX X.prog X.w) k f fd ps sp) (quiet : q X.A) (hr : Room k X.A) (hb : Binds X.K fd ps []) (tk : Takes X W)
    (I : Inv X pins σ H s) (r : Vals vs us) (h : sp vs H Q fun c d H => W c d σ H) : wpAny (model X.prog X.w) X.A (call (.ref f) us) (EP X pins σ Q) X.xe s := by
  have hl : us.length = ps.length := r.length.symm.trans (F.len _ _ _ _ h)
  have hbb := hb s us I.kIn (by rw [List.append_nil]; exact hl)
  rw [List.append_nil] at hbb
  refine wpAny_call (codeAny_mono (F.go quiet hr I.env0 hbb r h) ?_)
  intro res s' hq
  cases res with
  | error e => exact passAt tk σ _ _ _ _ _ I hq
  | ok fl =>
    cases fl with
    | ret u => exact I.after hq
    | next => exact (hq : False).elim
    | brk => exact (hq : False).elim
    | cont => exact (hq : False).elim
theorem pe_callW {x : Str} {p pos : Pos} {t : TA} {q : Around → Prop} (F : FnQ q X.prog X.w X.K X.mg X.base (L2.CX X.prog X.w) k f fd ps sp)
    (quiet : q X.A) (hr : Room k X.A) (hg : Gl X x) (hm : X.mg x = some (.ref f)) (hk : PySem.W.keepIn X.K (.ref f) = true)
    (hb : Binds X.K fd ps []) (tk : Takes X W) (ha : PA X (e :: es) t)
    (hdb : (x == ("__debug__" : Str)) = false := by decide)
    (he : starEach (e :: es) X.env = (false, eval e X.env) :: starEach es X.env := by rfl)
    (hpl : (backTo pos (starEach es X.env)).any (·.1) = false := by rfl) : PE X (.Call (.Name x p) (e :: es) [] pos) (tCallW sp W t) := by
  constructor
  intro pins s σ H Q I h
  apply wpAny_Call_Name_kw
  apply ld_glob I hg hm _ hdb
  refine PySem.W.callWith_K (h₀ := X.base) I.ok.mod.kin hk ?_ he hpl
  refine thn (ha.run pos pins s σ H _ I h) ?_
  rintro us s1 ⟨vs, H1, I1, r, q⟩
  exact ⟨I1.kIn, runGS F quiet hr hb tk I1 r q⟩
/-- what a def hands back, as data -/
def slotD : Slot → Res D
  | .sh d => .ok d
  | .own xs => .ok (.lst xs)
  | .ownD ks xs => .ok (.dic ks xs)
  | _ => .stuck
def slotF : Slot → Res (List D)
  | .own xs => .ok xs
  | _ => .stuck
theorem good_call {n : Nat} {M : List D → Res Slot} {t : TA} {mas : En → Res (List D)} (ga : Good X.K et ce W (RA X.K) t mas) (hn : ∀ Γ ds, mas Γ = .ok ds → ds.length = n) :
    Good X.K et ce W (RD X.K) (tCallW (spD X.K et n M) W t) (fun Γ => (mas Γ).bind fun ds => (M ds).bind slotD) := by
  intro Hs H0s σ H H0 Γ Q c q
  refine ga _ _ _ _ _ _ _ c (Post.next q fun ds vs H1 G1 he s r q => ?_)
  have r : RepAll X.K G1 vs ds := r
  refine ⟨r.len.trans (hn _ _ he), G1, ds, s.sub, r, ?_⟩
  have q := q.step back_D s
  cases hM : M ds with
  | stuck => rw [hM] at q; exact q
  | exc x d => rw [hM] at q; exact q
  | ok sl =>
    rw [hM] at q
    intro v H' G st hv
    cases sl with
    | sh d => exact q v H' G st hv
    | own xs =>
      obtain ⟨p, ws, ev, hn, hp, h0, rr⟩ := hv
      exact q v H' _ (Step.share s.sub st hn hp h0) (by subst ev; exact .lst upd_same (rr.same (same_upd' (Same.refl _) h0)))
    | ownD ks xs =>
      obtain ⟨p, ws, ev, hn, hp, h0, hk, rr⟩ := hv
      exact q v H' _ (Step.share s.sub st hn hp h0) (by subst ev; exact .dic upd_same hk (rr.same (same_upd' (Same.refl _) h0)))
    | un => exact (q : False).elim
    | ownO p C ns xs => exact (q : False).elim
    | er x d => exact (q : False).elim
    | lk ks xs => exact (q : False).elim
theorem good_callF {n : Nat} {M : List D → Res Slot} {t : TA} {mas : En → Res (List D)} (ga : Good X.K et ce W (RA X.K) t mas) (hn : ∀ Γ ds, mas Γ = .ok ds → ds.length = n) :
    Good X.K et ce W (RF X.K) (tCallW (spD X.K et n M) W t) (fun Γ => (mas Γ).bind fun ds => (M ds).bind slotF) := by
  intro Hs H0s σ H H0 Γ Q c q
  refine ga _ _ _ _ _ _ _ c (Post.next q fun ds vs H1 G1 he s r q => ?_)
  have r : RepAll X.K G1 vs ds := r
  refine ⟨r.len.trans (hn _ _ he), G1, ds, s.sub, r, ?_⟩
  have q := q.step back_F s
  cases hM : M ds with
  | stuck => rw [hM] at q; exact q
  | exc x d => rw [hM] at q; exact q
  | ok sl =>
    rw [hM] at q
    intro v H' G st hv
    cases sl with
    | own xs =>
      obtain ⟨p, ws, ev, hn, hp, h0, rr⟩ := hv
      exact q v H' G st ⟨p, ws, ev, hn, hp, h0, rr⟩
    | sh d => exact (q : False).elim
    | ownD ks xs => exact (q : False).elim
    | ownO p C ns xs => exact (q : False).elim
    | un => exact (q : False).elim
    | er x d => exact (q : False).elim
    | lk ks xs => exact (q : False).elim
/-- a list of arguments of known length -/
structure DAn (X : Cx) (et : ET) (ce : Caught) (W : WX) (es : List Expr) (n : Nat) (m : En → Res (List D)) : Prop where
  a : DA X et ce W es m
  n : ∀ Γ ds, m Γ = .ok ds → ds.length = n
theorem dan_nil : DAn X et ce W [] 0 (fun _ => .ok []) := ⟨da_nil, fun _ _ h => by cases h; rfl⟩
theorem dan_cons {n : Nat} {mas : En → Res (List D)} (h : DE X et ce W e m) (hs : DAn X et ce W es n mas) (hst : starEach (e :: es) X.env = (false, eval e X.env) :: starEach es X.env := by rfl) :
    DAn X et ce W (e :: es) (n + 1) (fun Γ => (m Γ).bind fun d => (mas Γ).bind fun ds => .ok (d :: ds)) :=
  ⟨da_cons h hs.a hst, fun Γ ds z => by
    cases h1 : m Γ with
    | stuck => rw [h1] at z; cases z
    | exc x d => rw [h1] at z; cases z
    | ok d =>
      cases h2 : mas Γ with
      | stuck => rw [h1, h2] at z; cases z
      | exc x d => rw [h1, h2] at z; cases z
      | ok r => rw [h1, h2] at z; cases z; exact congrArg Nat.succ (hs.n _ _ h2)⟩
theorem d_call {n : Nat} {M : List D → Res Slot} {mas : En → Res (List D)} (hp : ∀ t, PA X es t → PE X e (tCallW (spD X.K et n M) W t)) (ha : DAn X et ce W es n mas) : DE X et ce W e (fun Γ => (mas Γ).bind fun ds => (M ds).bind slotD) := by
  obtain ⟨⟨t, p, g⟩, hn⟩ := ha
  exact ⟨_, hp t p, good_call g hn⟩
theorem d_callF {n : Nat} {M : List D → Res Slot} {mas : En → Res (List D)} (hp : ∀ t, PA X es t → PE X e (tCallW (spD X.K et n M) W t)) (ha : DAn X et ce W es n mas) : DF X et ce W e (fun Γ => (mas Γ).bind fun ds => (M ds).bind slotF) := by
  obtain ⟨⟨t, p, g⟩, hn⟩ := ha
  exact ⟨_, hp t p, good_callF g hn⟩
end
end
def startD (N : Nat) (ds : List D) : En := ds.map Slot.sh ++ List.replicate (N - ds.length) .un
def mBody (N : Nat) (mb : En → Out) (ds : List D) : Res Slot := match mb (startD N ds) with
  | .nx _ => .ok (.sh .non)
  | .rt s => .ok s
  | .exc x d _ => .exc x d
  | _ => .stuck
theorem start_stn {K : PySem.W.Frag} {et : ET} {H H0 : Hp} {N : List Str} {vs : List V} {ds : List D} (s : Same H0 H) (r : RepAll K H0 vs ds) : Stn K et none H H0 (L2.start N vs) H H0 (startD N.length ds) := by
  have hl := r.len
  refine ⟨s, Step.refl s, by unfold L2.start startD; simp [hl], fun i sl e => ?_, fun i j sl t p ei ej ai aj hi hj => ?_⟩
  · unfold startD at e
    by_cases hi : i < ds.length
    · rw [List.getElem?_append_left (by simpa using hi), List.getElem?_map, List.getElem?_eq_getElem hi] at e
      cases e
      obtain ⟨v, hv, rv⟩ := r.get (List.getElem?_eq_getElem hi)
      have : (L2.start N vs)[i]? = some (some v) := by
        unfold L2.start
        rw [List.getElem?_append_left (by rw [List.length_map, hl]; exact hi), List.getElem?_map, hv]; rfl
      rw [this]
      exact rv
    · rw [List.getElem?_append_right (by simpa using hi), List.getElem?_replicate] at e
      split at e
      · cases e; cases (L2.start N vs)[i]? <;> trivial
      · cases e
  · exfalso
    unfold startD at ei
    by_cases hi' : i < ds.length
    · rw [List.getElem?_append_left (by simpa using hi'), List.getElem?_map, List.getElem?_eq_getElem hi'] at ei
      cases ei; cases ai
    · rw [List.getElem?_append_right (by simpa using hi'), List.getElem?_replicate] at ei
      split at ei
      · cases ei; cases ai
      · cases ei
theorem fn_data {q : Around → Prop} {P : Program} {w : World} {K : PySem.W.Frag} {mg : Str → Option Value} {base : Heap} {k : Nat} {f : Addr} {fd : FuncData} {ps N : List Str} {x qual : Str} {st : Stmt} {et : ET} {mb : En → Out}
    (F : Fun K x qual st f fd) (S : FnScope N ps (defScope st))
    (body : ∀ (cdv : Value) (A : Around) (outer : List PySem.Env) (s : Shared) (H : Hp) (E : XK), q A → Room k (A.deeper (envOfC qual (defScope st) s.heap.objs.size f cdv)) →
      DSs (cxOf (L2.CX P w) P w K mg base N qual (defScope st) f cdv A outer s H E) et none (fun c d _ H => E c d H) (defBody st) mb) :
    FnQ q P w K mg base (L2.CX P w) (k + 1) f fd ps (spD K et ps.length (mBody N.length mb)) := by
  refine FnG.mkX F S (fun vs H Q E h => h.1) fun cdv A outer s H vs Q E qu hr h => ?_
  obtain ⟨hl, H0, ds, sub, r, q⟩ := h
  obtain ⟨t, p, g⟩ := body cdv A outer s H E qu hr
  refine ⟨t, p, g H H0 _ _ _ _ _ (start_stn sub r) ?_⟩
  unfold mBody at q
  revert q
  cases mb (startD N.length ds) with
  | nx Γ => exact fun q σ' H' G c _ => q .non H' G c.st .non
  | rt s => exact fun q v H' G st hv => q v H' G st hv
  | exc x d Γ => exact fun q C fld dd w σ' H' G hx c _ hd r => q C fld dd w H' G hx c.st hd r
  | bk Γ => exact fun q => (q : False).elim
  | ct Γ => exact fun q => (q : False).elim
  | stuck => exact fun q => (q : False).elim
end DL
namespace DL
open PySem L2 PySem.Spec PyProof.Rows GL
def i2 (f : Int → Int → Option Giv) : D → D → Option Giv
  | .int i, .int j => f i j
  | _, _ => none
def giv (c : Prop) [Decidable c] (d : D) : Option Giv := if c then some (.val d) else none
theorem asked_giv {K : PySem.W.Frag} {H H0 : Hp} {Q : VK} {c : Prop} [Decidable c] {d : D} (h : Asked K H H0 Q (giv c d)) : c ∧ ∀ v, Rep K H0 v d → Q v H := by
  unfold giv at h
  split at h
  · rename_i hc; exact ⟨hc, h⟩
  · exact h.elim
section
variable {X : Cx}
theorem opr_imp {f : Value → Value → Sem Value} {r r' : R2} (ho : OpR X f r) (h : ∀ x y H Q, r' x y H Q → r x y H Q) : OpR X f r' := fun pins s σ H x y v u Q I rx ry q => ho pins s σ H x y v u Q I rx ry (h x y H Q q)
theorem unr_imp {f : Value → Sem Value} {r r' : V → Hp → VK → Prop} (ho : UnR X f r) (h : ∀ x H Q, r' x H Q → r x H Q) : UnR X f r' := fun pins s σ H x v Q I rx q => ho pins s σ H x v Q I rx (h x H Q q)
theorem callr_imp {f : Value} {r r' : List V → Hp → VK → Prop} (ho : CallR X f r) (h : ∀ x H Q, r' x H Q → r x H Q) : CallR X f r' := fun pins s σ H x v Q I rx q => ho pins s σ H x v Q I rx (h x H Q q)
theorem rep_int {K : PySem.W.Frag} {H : Hp} {x : V} {i : Int} (h : Rep K H x (.int i)) : x = .int i := by cases h; rfl
theorem rep_bl {K : PySem.W.Frag} {H : Hp} {x : V} {i : Bool} (h : Rep K H x (.bl i)) : x = .bl i := by cases h; rfl
theorem rep_str {K : PySem.W.Frag} {H : Hp} {x : V} {i : Str} (h : Rep K H x (.str i)) : x = .str i := by cases h; rfl
theorem rep_non {K : PySem.W.Frag} {H : Hp} {x : V} (h : Rep K H x .non) : x = .non := by cases h; rfl
theorem two_ints {K : PySem.W.Frag} {F : Int → Int → Option Giv} {x y : V} {H : Hp} {Q : VK} (h : r2D K (i2 F) x y H Q) : ∃ H0 i j, x = .int i ∧ y = .int j ∧ Asked K H H0 Q (F i j) := by
  obtain ⟨H0, d, e, sub, rd, re, q⟩ := h
  cases d with
  | int i => cases e with
    | int j => exact ⟨H0, i, j, rep_int rd, rep_int re, q⟩
    | _ => exact q.elim
  | _ => exact q.elim
theorem op_i2 {f : Value → Value → Sem Value} {C : Int → Int → Prop} {g : Int → Int → V} {F : Int → Int → Option Giv} (ho : OpR X f (rI C g))
    (h : ∀ i j H H0 Q, Asked X.K H H0 Q (F i j) → C i j ∧ Q (g i j) H) : OpR X f (r2D X.K (i2 F)) := opr_imp ho fun x y H Q q => by
  obtain ⟨H0, i, j, e1, e2, q⟩ := two_ints q
  obtain ⟨h1, h2⟩ := h _ _ _ _ _ q
  exact ⟨i, j, e1, e2, h1, h2⟩
theorem op_i0 {f : Value → Value → Sem Value} {g : Int → Int → V} {F : Int → Int → Option Giv} (ho : OpR X f (rI0 g)) (h : ∀ i j H H0 Q, Asked X.K H H0 Q (F i j) → Q (g i j) H) : OpR X f (r2D X.K (i2 F)) := opr_imp ho fun x y H Q q => by
  obtain ⟨H0, i, j, e1, e2, q⟩ := two_ints q
  exact ⟨i, j, e1, e2, h _ _ _ _ _ q⟩
def gSub : D → D → Option Giv := i2 fun i j => some (.val (.int (i - j)))
def gMulI : D → D → Option Giv := i2 fun i j => giv (i.natAbs.log2 + j.natAbs.log2 < 1000000) (.int (i * j))
def gDiv : D → D → Option Giv := i2 fun i j => giv (0 < j ∧ (j.natAbs.log2 < 9000 ∨ i.natAbs < 2 ^ 4400)) (.int (i / j))
def gMod : D → D → Option Giv := i2 fun i j => giv (0 < j) (.int (i % j))
def gPow : D → D → Option Giv := i2 fun i j => giv (0 ≤ j ∧ (Builtin.Int.intBits i : Int) * j ≤ 2 ^ 27) (.int (i ^ j.toNat))
def gShr : D → D → Option Giv := i2 fun i j => giv (0 ≤ j) (.int (i / 2 ^ j.toNat))
def gAnd : D → D → Option Giv := i2 fun i j => some (.val (.int (Builtin.bitAnd i j)))
def gAddI : D → D → Option Giv := i2 fun i j => some (.val (.int (i + j)))
def gLt : D → D → Option Giv := i2 fun i j => some (.val (.bl (decide (i < j))))
def gLe : D → D → Option Giv := i2 fun i j => some (.val (.bl (decide (i ≤ j))))
def gGt : D → D → Option Giv := i2 fun i j => some (.val (.bl (decide (j < i))))
def gGe : D → D → Option Giv := i2 fun i j => some (.val (.bl (decide (j ≤ i))))
theorem o_sub : OpR X (binaryOp .Sub) (r2D X.K gSub) := op_i0 op_sub fun i j H H0 Q q => q _ (.int _)
theorem noPylong_few {x y : Int} (h : x.natAbs < 2 ^ 4400) : Builtin.divisionGoesByPylong x y = false := by
  have key : (if (x == 0) = true then 0 else x.natAbs.log2 / 30 + 1) ≤ 150 := by
    by_cases hx : (x == 0) = true
    · rw [if_pos hx]; exact Nat.zero_le _
    · rw [if_neg hx]
      have h0 : x.natAbs ≠ 0 := fun z => hx (by simpa using z)
      have h30 : x.natAbs.log2 < 4400 := (Nat.log2_lt h0).mpr h
      omega
  unfold Builtin.divisionGoesByPylong
  simp only []
  rw [decide_eq_false (p := (if (x == 0) = true then 0 else x.natAbs.log2 / 30 + 1) > _) (by omega), Bool.and_false]
theorem noPylong_any {i j : Int} (h : 0 < j ∧ (j.natAbs.log2 < 9000 ∨ i.natAbs < 2 ^ 4400)) : Builtin.divisionGoesByPylong i j = false := by
  rcases h.2 with h | h
  · exact PyProof.noPylong_of_log2 h
  · exact noPylong_few h
theorem o_div : OpR X (binaryOp .FloorDiv) (r2D X.K gDiv) := op_i2 (C := fun i j => 0 < j ∧ (j.natAbs.log2 < 9000 ∨ i.natAbs < 2 ^ 4400)) (g := fun i j => .int (i / j)) (opI fun i j _ _ _ _ _ hc q => by
    have h1 : (0 : Int) < j := hc.1
    exact floordiv_int (by omega) (by rw [Int.fdiv_eq_ediv_of_nonneg i (by omega)]; exact q) (.inl (noPylong_any hc))) fun i j H H0 Q q => ⟨(asked_giv q).1, (asked_giv q).2 _ (.int _)⟩
theorem o_mod : OpR X (binaryOp .Mod) (r2D X.K gMod) := op_i2 op_mod fun i j H H0 Q q => ⟨(asked_giv q).1, (asked_giv q).2 _ (.int _)⟩
theorem o_pow : OpR X (binaryOp .Pow) (r2D X.K gPow) := op_i2 op_powW fun i j H H0 Q q => ⟨(asked_giv q).1, (asked_giv q).2 _ (.int _)⟩
theorem o_shr : OpR X (binaryOp .RShift) (r2D X.K gShr) := op_i2 op_shr fun i j H H0 Q q => ⟨(asked_giv q).1, (asked_giv q).2 _ (.int _)⟩
theorem o_and : OpR X (binaryOp .BitAnd) (r2D X.K gAnd) := op_i0 op_and fun i j H H0 Q q => q _ (.int _)
theorem o_lt : OpR X (compareOp .Lt) (r2D X.K gLt) := op_i0 op_lt fun i j H H0 Q q => q _ (.bl _)
theorem o_le : OpR X (compareOp .LtE) (r2D X.K gLe) := op_i0 op_le fun i j H H0 Q q => q _ (.bl _)
theorem o_gt : OpR X (compareOp .Gt) (r2D X.K gGt) := op_i0 op_gt fun i j H H0 Q q => q _ (.bl _)
theorem o_ge : OpR X (compareOp .GtE) (r2D X.K gGe) := op_i0 op_ge fun i j H H0 Q q => q _ (.bl _)
theorem q_mul : OpR X (inplaceOp .Mult) (r2D X.K gMulI) := op_i2 iop_mulW fun i j H H0 Q q => ⟨(asked_giv q).1, (asked_giv q).2 _ (.int _)⟩
def gNeg : D → Option Giv
  | .int i => some (.val (.int (-i)))
  | _ => none
theorem u_neg : UnR X (unaryOp .USub) (r1D X.K gNeg) := unr_imp un_neg fun x H Q q => by
  obtain ⟨H0, d, sub, rd, q⟩ := q
  cases d with
  | int i => exact ⟨i, rep_int rd, q _ (.int _)⟩
  | _ => exact q.elim
def gAdd : D → D → Option Giv
  | .int i, .int j => some (.val (.int (i + j)))
  | .str x, .str y => giv (x.length + y.length ≤ 1000000) (.str (x ++ y))
  | .lst xs, .lst ys => if xs.length + ys.length ≤ 1000000 then some (.newL (xs ++ ys)) else none
  | .tup xs, .tup ys => if 0 < xs.length ∧ 0 < ys.length ∧ xs.length + ys.length ≤ 1000000 then some (.newT (xs ++ ys)) else none
  | _, _ => none
theorem line_of {n : Nat} (h : n ≤ 1000000) : n ≤ sizeLine := by rw [sizeLine_eq]; omega
theorem opr_or {f : Value → Value → Sem Value} {r r' : R2} (h1 : OpR X f r) (h2 : OpR X f r') : OpR X f (fun x y H Q => r x y H Q ∨ r' x y H Q) := fun pins s σ H x y v u Q I rx ry q =>
  q.elim (fun q => h1 pins s σ H x y v u Q I rx ry q) (fun q => h2 pins s σ H x y v u Q I rx ry q)
theorem asked_if {K : PySem.W.Frag} {H H0 : Hp} {Q : VK} {c : Prop} [Decidable c] {g : Giv} (h : Asked K H H0 Q (if c then some g else none)) : c ∧ Asked K H H0 Q (some g) := by
  split at h
  · rename_i hc; exact ⟨hc, h⟩
  · exact h.elim
theorem o_add : OpR X (binaryOp .Add) (r2D X.K gAdd) := opr_imp (opr_or op_add (opr_or op_add_str (opr_or op_cat op_catT))) fun x y H Q q => by
  obtain ⟨H0, d, e, sub, rd, re, q⟩ := q
  cases d with
  | int i => cases e with
    | int j => exact .inl ⟨i, j, rep_int rd, rep_int re, q _ (.int _)⟩
    | _ => exact q.elim
  | str i => cases e with
    | str j =>
      obtain ⟨hc, q⟩ := asked_giv q
      exact .inr (.inl ⟨i, j, rep_str rd, rep_str re, line_of hc, q _ (.str _)⟩)
    | _ => exact q.elim
  | lst xs => cases e with
    | lst ys =>
      obtain ⟨hc, q⟩ := asked_if q
      obtain ⟨a, vs, ev, ha, ra⟩ := rd
      obtain ⟨b, ws, ew, hb, rb⟩ := re
      exact .inr (.inr (.inl ⟨a, b, vs, ws, ev, ew, ha, hb, by rw [ra.len, rb.len]; exact line_of hc, fun p n => q p _ n (ra.app rb)⟩))
    | _ => exact q.elim
  | tup xs => cases e with
    | tup ys =>
      obtain ⟨⟨h1, h2, hc⟩, q⟩ := asked_if q
      cases rd with | tup ha ra => cases re with | tup hb rb =>
        have l1 := ra.len
        have l2 := rb.len
        exact .inr (.inr (.inr ⟨_, _, _, _, rfl, rfl, seqT_same sub ha, seqT_same sub hb, fun z => by rw [z] at l1; simp at l1; omega, by rw [l1, l2]; exact line_of hc, fun z => by rw [z] at l2; simp at l2; omega, fun _ p n => q p _ n (ra.app rb)⟩))
    | _ => exact q.elim
  | _ => exact q.elim
/-- n copies of a list -/
def repD : Nat → List D → List D
  | 0, _ => []
  | n + 1, xs => xs ++ repD n xs
theorem rep_repD {K : PySem.W.Frag} {H : Hp} {vs : List V} {xs : List D} (r : RepAll K H vs xs) : ∀ n, RepAll K H (List.replicate n vs).flatten (repD n xs)
  | 0 => .nil
  | n + 1 => by
    rw [List.replicate_succ, List.flatten_cons]
    exact r.app (rep_repD r n)
def gMul : D → D → Option Giv
  | .int i, .int j => giv (i.natAbs.log2 + j.natAbs.log2 < 1000000) (.int (i * j))
  | .lst xs, .int k => if -1000000 ≤ k ∧ k ≤ 1000000 ∧ xs.length * k.toNat ≤ 1000000 then some (.newL (repD k.toNat xs)) else none
  | .int k, .lst xs => if -1000000 ≤ k ∧ k ≤ 1000000 ∧ xs.length * k.toNat ≤ 1000000 then some (.newL (repD k.toNat xs)) else none
  | _, _ => none
theorem o_mul : OpR X (binaryOp .Mult) (r2D X.K gMul) := opr_imp (opr_or op_mulW (opr_or op_rep op_repR)) fun x y H Q q => by
  obtain ⟨H0, d, e, sub, rd, re, q⟩ := q
  cases d with
  | int i => cases e with
    | int j =>
      obtain ⟨hc, q⟩ := asked_giv q
      exact .inl ⟨i, j, rep_int rd, rep_int re, hc, q _ (.int _)⟩
    | lst xs =>
      obtain ⟨⟨h1, h2, hc⟩, q⟩ := asked_if q
      obtain ⟨a, vs, ev, ha, ra⟩ := re
      exact .inr (.inr ⟨a, i, vs, ev, rep_int rd, ha, by omega, by omega, by rw [ra.len]; exact line_of hc, fun p n => q p _ n (rep_repD ra _)⟩)
    | _ => exact q.elim
  | lst xs => cases e with
    | int k =>
      obtain ⟨⟨h1, h2, hc⟩, q⟩ := asked_if q
      obtain ⟨a, vs, ev, ha, ra⟩ := rd
      exact .inr (.inl ⟨a, k, vs, ev, rep_int re, ha, by omega, by omega, by rw [ra.len]; exact line_of hc, fun p n => q p _ n (rep_repD ra _)⟩)
    | _ => exact q.elim
  | _ => exact q.elim
mutual
/-- as the library's data; nothing said of what plain refuses -/
def py : D → PyData
  | .non => .none
  | .bl b => .bool b
  | .int i => .int i
  | .str x => .str x
  | .tup xs => .tuple (pyAll xs)
  | .lst xs => .list (pyAll xs)
  | .scr ns => .list (ns.map .int)
  | .dic _ _ => .none
  | .obj _ _ _ => .none
def pyAll : List D → List PyData
  | [] => []
  | x :: xs => py x :: pyAll xs
end
mutual
def plain : D → Bool
  | .tup xs => plainAll xs
  | .lst xs => plainAll xs
  | .dic _ _ => false
  | .obj _ _ _ => false
  | _ => true
def plainAll : List D → Bool
  | [] => true
  | x :: xs => plain x && plainAll xs
end
theorem dp_ints {K : PySem.W.Frag} {H : Hp} : ∀ ns : List Int, DpAll K H (ns.map V.int) (ns.map PyData.int)
  | [] => .nil
  | n :: ns => .cons (.int n) (dp_ints ns)
theorem rep_dp {K : PySem.W.Frag} {H : Hp} {v : V} {d : D} (h : Rep K H v d) : plain d = true → Dp K H v (py d) := by
  induction h using Rep.rec (motive_2 := fun vs ds _ => plainAll ds = true → DpAll K H vs (pyAll ds)) with
  | non => exact fun _ => .non
  | bl b => exact fun _ => .bl b
  | int i => exact fun _ => .int i
  | str x => exact fun _ => .str x
  | tup h _ ih => exact fun p => by unfold plain at p; unfold py; exact .tup h (ih p)
  | lst h _ ih => exact fun p => by unfold plain at p; unfold py; exact .lst (SqL.of h) (ih p)
  | scr h => exact fun _ => by unfold py; exact .lst h (dp_ints _)
  | dic h k _ ih => exact fun p => by unfold plain at p; cases p
  | obj h k _ ih => exact fun p => by unfold plain at p; cases p
  | nil =>
    show DpAll K H [] (pyAll [])
    unfold pyAll
    exact .nil
  | cons _ _ h1 h2 =>
    rename_i p
    show DpAll K H _ (pyAll _)
    unfold plainAll at p
    rw [Bool.and_eq_true] at p
    unfold pyAll
    exact .cons (h1 p.1) (h2 p.2)
theorem repAll_dp {K : PySem.W.Frag} {H : Hp} : ∀ {vs : List V} {ds : List D}, RepAll K H vs ds → plainAll ds = true → DpAll K H vs (pyAll ds)
  | _, _, .nil, _ => by unfold pyAll; exact .nil
  | _, _, .cons h t, p => by
    unfold plainAll at p
    rw [Bool.and_eq_true] at p
    unfold pyAll
    exact .cons (rep_dp h p.1) (repAll_dp t p.2)
theorem repO_dp {K : PySem.W.Frag} {H H0 : Hp} {v : V} {d : D} (s : Same H0 H) (h : RepO K H H0 v d) (p : plain d = true) : Dp K H v (py d) := by
  cases d with
  | lst xs =>
    obtain ⟨a, vs, e, ha, r⟩ := h
    subst e
    unfold plain at p
    unfold py
    exact .lst (SqL.of ha) (repAll_dp (r.same s) p)
  | dic ks xs => unfold plain at p; cases p
  | _ => exact rep_dp (Rep.same s h) p
def eqOk (d : D) : Bool := plain d && SeqAt.shaped (py d)
def gEqD (d e : D) : Option Giv := giv (eqOk d = true ∧ eqOk e = true) (.bl (PyData.eqv (py d) (py e)))
def gNeD (d e : D) : Option Giv := giv (eqOk d = true ∧ eqOk e = true) (.bl (!PyData.eqv (py d) (py e)))
def gEq : D → D → Option Giv
  | .str x, .str y => some (.val (.bl (x == y)))
  | .lst xs, .lst [] => some (.val (.bl xs.isEmpty))
  | d, e => gEqD d e
def gNe : D → D → Option Giv
  | .str x, .str y => some (.val (.bl (!(x == y))))
  | .lst xs, .lst [] => some (.val (.bl (!xs.isEmpty)))
  | d, e => gNeD d e
theorem eqOk_of {d : D} (h : eqOk d = true) : plain d = true ∧ SeqAt.shaped (py d) = true := by
  unfold eqOk at h
  rw [Bool.and_eq_true] at h
  exact h
theorem rep_empty {K : PySem.W.Frag} {H : Hp} {vs : List V} {ds : List D} (r : RepAll K H vs ds) : vs.isEmpty = ds.isEmpty := by cases r <;> rfl
theorem repO_lst {K : PySem.W.Frag} {H H0 : Hp} {v : V} {xs : List D} (h : RepO K H H0 v (.lst xs)) : ∃ a vs, v = .ref a ∧ SqL K H a vs ∧ RepAll K H0 vs xs := by
  obtain ⟨a, vs, e, h, r⟩ := h
  exact ⟨a, vs, e, SqL.of h, r⟩
theorem o_eq (hu : X.A.units + 64 < cLine) : OpR X (compareOp .Eq) (r2D X.K gEq) := opr_imp (opr_or (opr_or op_eq (op_eqD hu)) (op_eqNil (by omega))) fun x y H Q q => by
  obtain ⟨H0, d, e, sub, rd, re, q⟩ := q
  have gen : Asked X.K H H0 Q (gEqD d e) → rEqD X.K x y H Q := fun q => by
    obtain ⟨⟨h1, h2⟩, q⟩ := asked_giv q
    exact ⟨_, _, repO_dp sub rd (eqOk_of h1).1, repO_dp sub re (eqOk_of h2).1, (eqOk_of h1).2, (eqOk_of h2).2, q _ (.bl _)⟩
  cases d with
  | str i => cases e with
    | str j =>
      have e1 := rep_str rd
      have e2 := rep_str re
      subst e1 e2
      exact .inl (.inl ⟨rfl, by rw [dec_str]; exact q _ (.bl _)⟩)
    | _ => exact .inl (.inr (gen q))
  | lst xs => cases e with
    | lst ys => cases ys with
      | nil =>
        obtain ⟨a, vs, rfl, h1, r1⟩ := repO_lst rd
        obtain ⟨b, ws, rfl, h2, r2⟩ := repO_lst re
        cases r2
        exact .inr ⟨a, b, vs, rfl, rfl, h1, h2, by rw [rep_empty r1]; exact q _ (.bl _)⟩
      | cons y ys => exact .inl (.inr (gen q))
    | _ => exact .inl (.inr (gen q))
  | _ => exact .inl (.inr (gen q))
theorem o_ne (hu : X.A.units + 64 < cLine) : OpR X (compareOp .NotEq) (r2D X.K gNe) := opr_imp (opr_or (opr_or op_ne (op_neD hu)) (op_neNil (by omega))) fun x y H Q q => by
  obtain ⟨H0, d, e, sub, rd, re, q⟩ := q
  have gen : Asked X.K H H0 Q (gNeD d e) → rNeD X.K x y H Q := fun q => by
    obtain ⟨⟨h1, h2⟩, q⟩ := asked_giv q
    exact ⟨_, _, repO_dp sub rd (eqOk_of h1).1, repO_dp sub re (eqOk_of h2).1, (eqOk_of h1).2, (eqOk_of h2).2, q _ (.bl _)⟩
  cases d with
  | str i => cases e with
    | str j =>
      have e1 := rep_str rd
      have e2 := rep_str re
      subst e1 e2
      exact .inl (.inl ⟨rfl, by rw [dec_str]; exact q _ (.bl _)⟩)
    | _ => exact .inl (.inr (gen q))
  | lst xs => cases e with
    | lst ys => cases ys with
      | nil =>
        obtain ⟨a, vs, rfl, h1, r1⟩ := repO_lst rd
        obtain ⟨b, ws, rfl, h2, r2⟩ := repO_lst re
        cases r2
        exact .inr ⟨a, b, vs, rfl, rfl, h1, h2, by rw [rep_empty r1]; exact q _ (.bl _)⟩
      | cons y ys => exact .inl (.inr (gen q))
    | _ => exact .inl (.inr (gen q))
  | _ => exact .inl (.inr (gen q))
def isNon : D → Bool
  | .non => true
  | _ => false
theorem repO_non {K : PySem.W.Frag} {H H0 : Hp} {v : V} {d : D} (h : RepO K H H0 v d) : decide (v = .non) = isNon d := by
  cases d with
  | lst xs => obtain ⟨a, vs, e, _⟩ := h; subst e; rfl
  | dic ks xs => obtain ⟨a, vs, e, _⟩ := h; subst e; rfl
  | _ => cases (show Rep K H0 v _ from h) <;> rfl
def gIsN (d e : D) : Option Giv := giv (isNon e = true) (.bl (isNon d))
def gNotN (d e : D) : Option Giv := giv (isNon e = true) (.bl (!isNon d))
theorem o_isN : OpR X (compareOp .Is) (r2D X.K gIsN) := opr_imp op_isN fun x y H Q q => by
  obtain ⟨H0, d, e, sub, rd, re, q⟩ := q
  obtain ⟨h, q⟩ := asked_giv q
  rw [repO_non rd]
  exact ⟨of_decide_eq_true ((repO_non re).trans h), q _ (.bl _)⟩
theorem o_notN : OpR X (compareOp .IsNot) (r2D X.K gNotN) := opr_imp op_notN fun x y H Q q => by
  obtain ⟨H0, d, e, sub, rd, re, q⟩ := q
  obtain ⟨h, q⟩ := asked_giv q
  rw [repO_non rd]
  exact ⟨of_decide_eq_true ((repO_non re).trans h), q _ (.bl _)⟩
/-- a value that is no object -/
def flat : D → Bool
  | .non | .bl _ | .int _ | .str _ => true
  | _ => false
def toV : D → V
  | .bl b => .bl b
  | .int i => .int i
  | .str x => .str x
  | _ => .non
theorem flat_rep {K : PySem.W.Frag} {H : Hp} {v : V} {d : D} (h : Rep K H v d) (f : flat d = true) : v = toV d ∧ flatV v = true := by
  cases h <;> first | exact ⟨rfl, rfl⟩ | cases f
theorem flat_all {K : PySem.W.Frag} {H : Hp} : ∀ {vs : List V} {ds : List D}, RepAll K H vs ds → ds.all flat = true → vs = ds.map toV ∧ vs.all flatV = true
  | _, _, .nil, _ => ⟨rfl, rfl⟩
  | _, _, .cons h t, f => by
    rw [List.all_cons, Bool.and_eq_true] at f
    obtain ⟨e1, f1⟩ := flat_rep h f.1
    obtain ⟨e2, f2⟩ := flat_all t f.2
    exact ⟨by rw [e1, e2]; rfl, by rw [List.all_cons, f1, f2]; rfl⟩
def inD (x : D) (xs : List D) : Bool := inV (toV x) (xs.map toV)
/-- is a text in a text? -/
def inS (x y : Str) : Bool := !(Builtin.Str.occurrences y x 0 y.length 1).isEmpty
def inStr (neg : Bool) : D → Str → Option Giv
  | .str x, y => some (.val (.bl (if neg then !inS x y else inS x y)))
  | _, _ => none
def gIn (neg : Bool) : D → D → Option Giv
  | x, .str y => inStr neg x y
  | x, .lst xs => giv (flat x = true ∧ xs.all flat = true) (.bl (if neg then !inD x xs else inD x xs))
  | x, .tup xs => giv (flat x = true ∧ xs.all flat = true) (.bl (if neg then !inD x xs else inD x xs))
  | _, _ => none
theorem flat_repO {K : PySem.W.Frag} {H H0 : Hp} {v : V} {d : D} (h : RepO K H H0 v d) (f : flat d = true) : v = toV d ∧ flatV v = true := by
  cases d with
  | lst xs => cases f
  | dic ks xs => cases f
  | _ => exact flat_rep h f
theorem in_of {neg : Bool} {x y : V} {H : Hp} {Q : VK} (q : r2D X.K (gIn neg) x y H Q) : rIn X.K neg x y H Q ∨ ∃ i j, x = .str i ∧ y = .str j ∧ Q (.bl (if neg then !inS i j else inS i j)) H := by
  obtain ⟨H0, d, e, sub, rd, re, q⟩ := q
  cases e with
  | lst xs =>
    obtain ⟨⟨h1, h2⟩, q⟩ := asked_giv q
    obtain ⟨a, vs, ev, ha, ra⟩ := re
    obtain ⟨e1, f1⟩ := flat_repO rd h1
    obtain ⟨e2, f2⟩ := flat_all ra h2
    exact .inl ⟨a, vs, ev, .inl (SqL.of ha), f1, f2, by rw [e1, e2]; exact q _ (.bl _)⟩
  | tup xs =>
    obtain ⟨⟨h1, h2⟩, q⟩ := asked_giv q
    cases re with | tup ha ra =>
      obtain ⟨e1, f1⟩ := flat_repO rd h1
      obtain ⟨e2, f2⟩ := flat_all ra h2
      exact .inl ⟨_, _, rfl, .inr (seqT_same sub ha), f1, f2, by rw [e1, e2]; exact q _ (.bl _)⟩
  | str z => cases d with
    | str w =>
      have e1 := rep_str rd
      have e2 := rep_str re
      subst e1 e2
      exact .inr ⟨w, z, rfl, rfl, q _ (.bl _)⟩
    | _ => exact q.elim
  | _ => exact q.elim
theorem o_in : OpR X (compareOp .In) (r2D X.K (gIn false)) := opr_imp (opr_or op_in_seq op_in_str) fun x y H Q q => in_of q
theorem o_notIn : OpR X (compareOp .NotIn) (r2D X.K (gIn true)) := opr_imp (opr_or op_notIn_seq op_notin_str) fun x y H Q q => in_of q
def gIx : D → D → Option Giv
  | .lst xs, .int i => (atI xs i).map .val
  | .tup xs, .int i => (atI xs i).map .val
  | .scr ns, .int i => (atI ns i).map fun n => .val (.int n)
  | .str z, .int i => if z.length ≤ 1000000 then (atI z.cps.toList i).map fun c => .val (.str ⟨#[c]⟩) else none
  | _, _ => none
theorem atI_rep {K : PySem.W.Frag} {H : Hp} {vs : List V} {ds : List D} {i : Int} {d : D} (r : RepAll K H vs ds) (h : atI ds i = some d) : ∃ v, atI vs i = some v ∧ Rep K H v d := by
  unfold atI at h ⊢
  rw [r.len]
  cases e : ixN ds.length i with
  | none => rw [e] at h; cases h
  | some j =>
    rw [e] at h
    exact r.get h
theorem asked_map {K : PySem.W.Frag} {H H0 : Hp} {Q : VK} {α : Type} {o : Option α} {f : α → D} (h : Asked K H H0 Q (o.map fun a => .val (f a))) : ∃ a, o = some a ∧ ∀ v, Rep K H0 v (f a) → Q v H := by
  cases o with
  | none => exact h.elim
  | some a => exact ⟨a, rfl, h⟩
theorem atI_map {α β : Type} {f : α → β} {xs : List α} {i : Int} {a : α} (h : atI xs i = some a) : atI (xs.map f) i = some (f a) := by
  unfold atI at h ⊢
  rw [List.length_map]
  cases e : ixN xs.length i with
  | none => rw [e] at h; cases h
  | some j =>
    rw [e] at h
    show (xs.map f)[j]? = _
    rw [List.getElem?_map]
    have h : xs[j]? = some a := h
    rw [h]; rfl
theorem ixr_imp {r r' : R2} (ho : IxR X r) (h : ∀ x y H Q, r' x y H Q → r x y H Q) : IxR X r' := fun a b pins s σ H x y v u Q I rx ry q hs => ho a b pins s σ H x y v u Q I rx ry (h x y H Q q) hs
theorem x_ix : IxR X (r2D X.K gIx) := ixr_imp ix_seq fun x y H Q q => by
  obtain ⟨H0, d, e, sub, rd, re, q⟩ := q
  cases e with
  | int i =>
    have ey := rep_int (show Rep X.K H0 y (.int i) from re)
    cases d with
    | lst xs =>
      obtain ⟨z, hz, q⟩ := asked_map (f := fun d => d) q
      obtain ⟨a, vs, ev, ha, ra⟩ := rd
      obtain ⟨v, hv, rv⟩ := atI_rep ra hz
      exact .inl ⟨a, vs, i, v, ev, ey, SqL.of ha, hv, q _ rv⟩
    | tup xs =>
      obtain ⟨z, hz, q⟩ := asked_map (f := fun d => d) q
      cases rd with | tup ha ra =>
        obtain ⟨v, hv, rv⟩ := atI_rep ra hz
        exact .inr (.inl ⟨_, _, i, v, rfl, ey, seqT_same sub ha, hv, q _ rv⟩)
    | scr ns =>
      obtain ⟨z, hz, q⟩ := asked_map q
      cases rd with | scr ha => exact .inl ⟨_, _, i, .int z, rfl, ey, sub.seq ha, atI_map hz, q _ (.int _)⟩
    | str z =>
      have q : Asked X.K H H0 Q (if z.length ≤ 1000000 then (atI z.cps.toList i).map fun c => .val (.str ⟨#[c]⟩) else none) := q
      split at q
      · rename_i hc
        obtain ⟨c, hz, q⟩ := asked_map q
        exact .inr (.inr ⟨z, i, c, rep_str rd, ey, line_of hc, hz, q _ (.str _)⟩)
      · exact q.elim
    | _ => exact q.elim
  | _ => cases d <;> exact q.elim
end
end DL
namespace DL
open PySem L2 PySem.Spec PyProof.Rows GL
section
variable {X : Cx} {et : ET} {ce : Caught} {W : WX} {e a b c tg : Expr} {es : List Expr} {m ma mb mc : En → Res D} {mt mu : En → Res Bool} {pos p2 : Pos}
theorem d_ix (ha : DO X et ce W a ma) (hb : DO X et ce W b mb) (hs : PlainIx b) : DE X et ce W (.Subscript a b pos) (fun Γ => (ma Γ).bind fun x => (mb Γ).bind fun y => toR (gIx x y)) := by
  obtain ⟨t, p, ga⟩ := ha
  obtain ⟨t2, p2, gb⟩ := hb
  exact ⟨_, pe_ix x_ix p p2 hs, good_op (r := r2D X.K gIx) ga gb⟩
def cutL {α : Type} (xs : List α) (lo hi : Option Int) : List α := (xs.drop (HT.sIx xs.length 0 lo)).take (HT.sIx xs.length xs.length hi - HT.sIx xs.length 0 lo)
theorem rep_cut {K : PySem.W.Frag} {H : Hp} {vs : List V} {ds : List D} (r : RepAll K H vs ds) (lo hi : Option Int) : RepAll K H (cutV vs lo hi) (cutL ds lo hi) := by
  unfold cutV cutL
  rw [r.len]
  exact (r.drop _).take _
def gSl (lo hi : Option Int) : D → Option Giv
  | .lst xs => some (.newL (cutL xs lo hi))
  | .scr ns => some (.newL (cutL (ns.map .int) lo hi))
  | .str z => giv (z.length ≤ 1000000) (.str (cutS z lo hi))
  | _ => none
theorem slr_imp {r r' : V → Option Int → Option Int → Hp → VK → Prop} (ho : SlR X r) (h : ∀ x lo hi H Q, r' x lo hi H Q → r x lo hi H Q) : SlR X r' := fun pins s σ H x v vl vu lo hi sl Q I rx hs pl pu q =>
  ho pins s σ H x v vl vu lo hi sl Q I rx hs pl pu (h x lo hi H Q q)
theorem x_sl : SlR X (fun x lo hi H Q => r1D X.K (gSl lo hi) x H Q) := slr_imp (sl_list.or sl_str) fun x lo hi H Q q => by
  obtain ⟨H0, d, sub, rd, q⟩ := q
  cases d with
  | lst xs =>
    obtain ⟨a, vs, ev, ha, ra⟩ := rd
    exact .inl ⟨a, vs, ev, SqL.of ha, fun p n => q p _ n (rep_cut ra lo hi)⟩
  | scr ns => cases rd with | scr ha => exact .inl ⟨_, _, rfl, sub.seq ha, fun p n => q p _ n (rep_cut (RepAll.ints ns) lo hi)⟩
  | str z =>
    obtain ⟨hc, q⟩ := asked_giv q
    exact .inr ⟨z, rep_str rd, line_of hc, q _ (.str _)⟩
  | _ => exact q.elim
def RP : Rl (Option Int) (Option Int) := fun _ _ _ b a => b = a
structure DP (X : Cx) (et : ET) (ce : Caught) (W : WX) (e : Option Expr) (m : En → Res (Option Int)) : Prop where ex : ∃ t, PO X e t ∧ Good X.K et ce W RP t m
theorem dp_none : DP X et ce W none (fun _ => .ok none) := ⟨_, po_none, fun Hs H0s σ H H0 Γ Q c q => q none H H0 (Step.refl c.sub) rfl⟩
def toI : D → Res (Option Int)
  | .int i => .ok (some i)
  | _ => .stuck
theorem dp_some (h : DO X et ce W e m) : DP X et ce W (some e) (fun Γ => (m Γ).bind toI) := by
  obtain ⟨t, p, g⟩ := h
  refine ⟨_, po_some p, fun Hs H0s σ H H0 Γ Q c q => g _ _ _ _ _ _ _ c (Post.next q fun d v H1 G _ s r q => ?_)⟩
  cases d with
  | int i => exact ⟨i, rep_int r, q _ H1 G s rfl⟩
  | _ => exact (q : False).elim
theorem good_sl {te : TE} {tl th : TO} {ml mh : En → Res (Option Int)} (ga : Good X.K et ce W (RO X.K) te ma) (gl : Good X.K et ce W RP tl ml) (gh : Good X.K et ce W RP th mh) :
    Good X.K et ce W (RF X.K) (tSl (fun x lo hi H Q => r1D X.K (gSl lo hi) x H Q) te tl th) (fun Γ => (ma Γ).bind fun x => (ml Γ).bind fun lo => (mh Γ).bind fun hi => toF (gSl lo hi x)) ∧
    Good X.K et ce W (RD X.K) (tSl (fun x lo hi H Q => r1D X.K (gSl lo hi) x H Q) te tl th) (fun Γ => (ma Γ).bind fun x => (ml Γ).bind fun lo => (mh Γ).bind fun hi => toR (gSl lo hi x)) := by
  constructor
  · intro Hs H0s σ H H0 Γ Q c q
    refine ga _ _ _ _ _ _ _ c (Post.next q fun d v H1 G1 _ s r q => gl _ _ _ _ _ _ _ (c.step s) (Post.next (q.step back_F s) fun lo lo' H2 G2 _ s2 e2 q => ?_))
    subst e2
    refine gh _ _ _ _ _ _ _ ((c.step s).step s2) (Post.next (q.step back_F s2) fun hi hi' H3 G3 _ s3 e3 q => ?_)
    subst e3
    exact ⟨G3, d, s3.sub, (r.same s2).same s3, askedF (σ := σ) s3.sub (q.step back_F s3)⟩
  · intro Hs H0s σ H H0 Γ Q c q
    refine ga _ _ _ _ _ _ _ c (Post.next q fun d v H1 G1 _ s r q => gl _ _ _ _ _ _ _ (c.step s) (Post.next (q.step back_D s) fun lo lo' H2 G2 _ s2 e2 q => ?_))
    subst e2
    refine gh _ _ _ _ _ _ _ ((c.step s).step s2) (Post.next (q.step back_D s2) fun hi hi' H3 G3 _ s3 e3 q => ?_)
    subst e3
    exact ⟨G3, d, s3.sub, (r.same s2).same s3, asked (σ := σ) s3.sub (q.step back_D s3)⟩
theorem d_sl {lo hi : Option Expr} {ml mh : En → Res (Option Int)} (h : DO X et ce W e m) (hl : DP X et ce W lo ml) (hh : DP X et ce W hi mh) :
    DE X et ce W (.Subscript e (.Slice lo hi none p2) pos) (fun Γ => (m Γ).bind fun x => (ml Γ).bind fun lo => (mh Γ).bind fun hi => toR (gSl lo hi x)) := by
  obtain ⟨t, p, g⟩ := h
  obtain ⟨tl, pl, gl⟩ := hl
  obtain ⟨th, ph, gh⟩ := hh
  exact ⟨_, pe_slice x_sl p pl ph, (good_sl g gl gh).2⟩
def rc1 (r : V → Hp → VK → Prop) : List V → Hp → VK → Prop := fun vs H Q => ∃ v, vs = [v] ∧ r v H Q
def rc2 (r : R2) : List V → Hp → VK → Prop := fun vs H Q => ∃ v w, vs = [v, w] ∧ r v w H Q
theorem good_c1 {te : TE} {g : D → Option Giv} (ga : Good X.K et ce W (RO X.K) te ma) : Good X.K et ce W (RD X.K) (tCB (rc1 (r1D X.K g)) (tCons te tNil)) (fun Γ => (ma Γ).bind fun x => toR (g x)) := by
  intro Hs H0s σ H H0 Γ Q c q
  refine ga _ _ _ _ _ _ _ c (Post.next q fun d v H1 G1 _ s r q => ?_)
  exact ⟨v, rfl, G1, d, s.sub, r, asked (σ := σ) s.sub (q.step back_D s)⟩
theorem good_c2 {ta tb : TE} {g : D → D → Option Giv} (ga : Good X.K et ce W (RO X.K) ta ma) (gb : Good X.K et ce W (RO X.K) tb mb) :
    Good X.K et ce W (RD X.K) (tCB (rc2 (r2D X.K g)) (tCons ta (tCons tb tNil))) (fun Γ => (ma Γ).bind fun x => (mb Γ).bind fun y => toR (g x y)) := by
  intro Hs H0s σ H H0 Γ Q c q
  refine ga _ _ _ _ _ _ _ c (Post.next q fun d v H1 G1 _ s r q => gb _ _ _ _ _ _ _ (c.step s) (Post.next (q.step back_D s) fun d2 v2 H2 G2 _ s2 r2 q => ?_))
  exact ⟨v, v2, rfl, G2, d, d2, s2.sub, r.same s2, r2, asked (σ := σ) s2.sub (q.step back_D s2)⟩
/-- f(a): hp by the rule of the layer for a call of that built-in -/
theorem d_c1 {g : D → Option Giv} (hp : ∀ t, PA X [a] t → PE X e (tCB (rc1 (r1D X.K g)) t)) (ha : DO X et ce W a ma) (hst : starEach (a :: []) X.env = (false, eval a X.env) :: starEach [] X.env := by rfl) : DE X et ce W e (fun Γ => (ma Γ).bind fun x => toR (g x)) := by
  obtain ⟨t, p, ga⟩ := ha
  exact ⟨_, hp _ (pa_cons p pa_nil hst), good_c1 ga⟩
theorem d_c2 {g : D → D → Option Giv} (hp : ∀ t, PA X [a, b] t → PE X e (tCB (rc2 (r2D X.K g)) t)) (ha : DO X et ce W a ma) (hb : DO X et ce W b mb) (hst : starEach (a :: [b]) X.env = (false, eval a X.env) :: starEach [b] X.env := by rfl)
    (hst2 : starEach (b :: []) X.env = (false, eval b X.env) :: starEach [] X.env := by rfl) : DE X et ce W e (fun Γ => (ma Γ).bind fun x => (mb Γ).bind fun y => toR (g x y)) := by
  obtain ⟨t, p, ga⟩ := ha
  obtain ⟨t2, p2, gb⟩ := hb
  exact ⟨_, hp _ (pa_cons p (pa_cons p2 pa_nil hst2) hst), good_c2 ga gb⟩
def gLen : D → Option Giv
  | .lst xs => some (.val (.int xs.length))
  | .tup xs => some (.val (.int xs.length))
  | .scr xs => some (.val (.int xs.length))
  | .str z => giv (z.length ≤ 1000000) (.int z.length)
  | _ => none
theorem b_len : CallR X (.builtin "len") (rc1 (r1D X.K gLen)) := callr_imp call_len fun vs H Q q => by
  obtain ⟨v, ev, H0, d, sub, rd, q⟩ := q
  subst ev
  cases d with
  | lst xs =>
    obtain ⟨a, vs, ev, ha, ra⟩ := rd
    subst ev
    exact ⟨_, _, rfl, .inl ⟨vs, SqL.of ha, rfl⟩, by rw [ra.len]; exact q _ (.int _)⟩
  | tup xs => cases rd with | tup ha ra => exact ⟨_, _, rfl, .inr ⟨_, seqT_same sub ha, rfl⟩, by rw [ra.len]; exact q _ (.int _)⟩
  | scr ns => cases rd with | scr ha => exact ⟨_, _, rfl, .inl ⟨_, sub.seq ha, rfl⟩, by rw [List.length_map]; exact q _ (.int _)⟩
  | str z =>
    obtain ⟨hc, q⟩ := asked_giv q
    have e := rep_str rd
    subst e
    exact ⟨_, _, rfl, ⟨line_of hc, rfl⟩, q _ (.int _)⟩
  | _ => exact q.elim
def gAbs : D → Option Giv
  | .int i => some (.val (.int (if i < 0 then -i else i)))
  | _ => none
theorem b_abs : CallR X (.builtin "abs") (rc1 (r1D X.K gAbs)) := callr_imp call_abs fun vs H Q q => by
  obtain ⟨v, ev, H0, d, sub, rd, q⟩ := q
  subst ev
  cases d with
  | int i => exact ⟨i, by rw [rep_int rd], q _ (.int _)⟩
  | _ => exact q.elim
def gInt : D → Option Giv
  | .int i => some (.val (.int i))
  | .bl k => some (.val (.int (if k then 1 else 0)))
  | _ => none
theorem b_int : CallR X (.type "int") (rc1 (r1D X.K gInt)) := callr_imp call_int1 fun vs H Q q => by
  obtain ⟨v, ev, H0, d, sub, rd, q⟩ := q
  subst ev
  cases d with
  | int i => exact .inl ⟨i, by rw [rep_int rd], q _ (.int _)⟩
  | bl i => exact .inr ⟨i, by rw [rep_bl rd], q _ (.int _)⟩
  | _ => exact q.elim
def gMax : D → D → Option Giv := i2 fun i j => some (.val (.int (if j > i then j else i)))
def gMin : D → D → Option Giv := i2 fun i j => some (.val (.int (if j < i then j else i)))
theorem b_max (hc : X.calm = true) : CallR X (.builtin "max") (rc2 (r2D X.K gMax)) := callr_imp (call_max2 hc) fun vs H Q q => by
  obtain ⟨v, w, ev, q⟩ := q
  obtain ⟨H0, i, j, e1, e2, k⟩ := two_ints q
  subst ev e1 e2
  exact ⟨i, j, rfl, k _ (.int _)⟩
/-- list(xs), list(t) -/
def gList : D → Option Giv
  | .lst xs => some (.newL xs)
  | .tup xs => some (.newL xs)
  | _ => none
theorem b_list : CallR X (.type "list") (rc1 (r1D X.K gList)) := callr_imp call_list_of fun vs H Q q => by
  obtain ⟨v, ev, H0, d, sub, rd, q⟩ := q
  subst ev
  cases d with
  | lst xs =>
    obtain ⟨a, vs, ev, ha, ra⟩ := rd
    subst ev
    exact ⟨a, vs, rfl, .inl (SqL.of ha), fun p n => q p _ n ra⟩
  | tup xs => cases rd with | tup ha ra => exact ⟨_, _, rfl, .inr (seqT_same sub ha), fun p n => q p _ n ra⟩
  | _ => exact q.elim
/-- the built-in types that are asked for -/
inductive Ty where
  | int | bool | str | tuple | list
def Ty.name : Ty → String
  | .int => "int"
  | .bool => "bool"
  | .str => "str"
  | .tuple => "tuple"
  | .list => "list"
def isi : Ty → D → Bool
  | .int, .int _ => true
  | .int, .bl _ => true
  | .bool, .bl _ => true
  | .str, .str _ => true
  | .tuple, .tup _ => true
  | .list, .lst _ => true
  | .list, .scr _ => true
  | _, _ => false
def noObj : D → Bool
  | .obj _ _ _ => false
  | _ => true
def gIsi (T : Ty) (d : D) : Option Giv := giv (noObj d = true) (.bl (isi T d))
theorem tyx_of {K : PySem.W.Frag} {H H0 : Hp} {v : V} {d : D} (s : Same H0 H) (h : RepO K H H0 v d) (n : noObj d = true) (T : Ty) : ∃ t, TyX K H v (.type t) ∧ kitB t T.name = some (isi T d) := by
  cases d with
  | lst xs =>
    obtain ⟨a, vs, e, ha, _⟩ := h
    subst e
    exact ⟨"list", .base (.lst ha), by cases T <;> first | (show kitB "list" _ = some true; decide +kernel) | (show kitB "list" _ = some false; decide +kernel)⟩
  | dic ks xs =>
    obtain ⟨a, vs, e, ha, _⟩ := h
    subst e
    exact ⟨"dict", .base (.dK ha), by cases T <;> first | (show kitB "dict" _ = some true; decide +kernel) | (show kitB "dict" _ = some false; decide +kernel)⟩
  | non => cases h; exact ⟨"NoneType", .base .non, by cases T <;> first | (show kitB "NoneType" _ = some true; decide +kernel) | (show kitB "NoneType" _ = some false; decide +kernel)⟩
  | bl b => cases h; exact ⟨"bool", .base (.bl b), by cases T <;> first | (show kitB "bool" _ = some true; decide +kernel) | (show kitB "bool" _ = some false; decide +kernel)⟩
  | int i => cases h; exact ⟨"int", .base (.int i), by cases T <;> first | (show kitB "int" _ = some true; decide +kernel) | (show kitB "int" _ = some false; decide +kernel)⟩
  | str x => cases h; exact ⟨"str", .base (.str x), by cases T <;> first | (show kitB "str" _ = some true; decide +kernel) | (show kitB "str" _ = some false; decide +kernel)⟩
  | tup xs => cases h with | tup ha _ => exact ⟨"tuple", tyx_tup (seqT_same s ha), by cases T <;> first | (show kitB "tuple" _ = some true; decide +kernel) | (show kitB "tuple" _ = some false; decide +kernel)⟩
  | scr ns => cases h with | scr ha => exact ⟨"list", tyx_lst (s.seq ha), by cases T <;> first | (show kitB "list" _ = some true; decide +kernel) | (show kitB "list" _ = some false; decide +kernel)⟩
  | obj C ns xs => cases n
theorem d_isi {T : Ty} {p : Pos} (hg : Gl X "isinstance") (hm : X.mg "isinstance" = none) (hb : PE X b (tC (.ty T.name))) (ha : DO X et ce W a ma)
    (hst : starEach (a :: [b]) X.env = (false, eval a X.env) :: starEach [b] X.env := by rfl) (hst2 : starEach (b :: []) X.env = (false, eval b X.env) :: starEach [] X.env := by rfl)
    (hpl : (backTo pos (starEach [b] X.env)).any (·.1) = false := by rfl) :
    DE X et ce W (.Call (.Name "isinstance" p) [a, b] [] pos) (fun Γ => (ma Γ).bind fun x => toR (gIsi T x)) := by
  obtain ⟨t, pa, ga⟩ := ha
  refine ⟨_, pe_callB call_isi hg hm (by decide +kernel) (pa_cons pa (pa_cons hb pa_nil hst2) hst) (by decide) (by decide) hst hpl, fun Hs H0s σ H H0 Γ Q c q => ga _ _ _ _ _ _ _ c (Post.next q fun d v H1 G1 _ s r q => ?_)⟩
  have q := asked (σ := σ) s.sub (q.step back_D s)
  obtain ⟨hn, q⟩ := asked_giv q
  obtain ⟨k, ty, hk⟩ := tyx_of s.sub r hn T
  exact ⟨v, .ty T.name, .type k, .type T.name, _, rfl, .ty _, ty, kit_ty hk, q _ (.bl _)⟩
end
end DL
namespace DL
open PySem L2 PySem.Spec PyProof.Rows GL
section
variable {X : Cx} {et : ET} {ce : Caught} {W : WX} {e a b c tg : Expr} {es : List Expr} {m ma mb mc : En → Res D} {mt mu : En → Res Bool} {pos p2 : Pos}
def asB : D → Res Bool
  | .bl b => .ok b
  | _ => .stuck
theorem d_not (h : DE X et ce W a m) : DE X et ce W (.UnaryOp .Not a pos) (fun Γ => (m Γ).bind fun d => (asB d).bind fun b => .ok (.bl (!b))) := by
  obtain ⟨t, p, g⟩ := h
  refine ⟨_, pe_not p, fun Hs H0s σ H H0 Γ Q c q => g _ _ _ _ _ _ _ c (Post.next q fun d v H1 G _ s r q => ?_)⟩
  cases d with
  | bl b => exact ⟨b, rep_bl r, q _ H1 G s (.bl _)⟩
  | _ => exact (q : False).elim
theorem d_one {op} (h : DE X et ce W a m) : DE X et ce W (.BoolOp op [a] pos) m := by
  obtain ⟨t, p, g⟩ := h
  exact ⟨t, pe_one p, g⟩
theorem d_and {rest : List Expr} (ha : DE X et ce W a ma) (hb : DE X et ce W (.BoolOp .And (b :: rest) pos) mb) :
    DE X et ce W (.BoolOp .And (a :: b :: rest) pos) (fun Γ => (ma Γ).bind fun d => (asB d).bind fun b => if b = true then mb Γ else .ok (.bl false)) := by
  obtain ⟨t, p, g⟩ := ha
  obtain ⟨t2, p2, g2⟩ := hb
  refine ⟨_, pe_and p p2, fun Hs H0s σ H H0 Γ Q c q => g _ _ _ _ _ _ _ c (Post.next q fun d v H1 G _ s r q => ?_)⟩
  cases d with
  | bl b =>
    refine ⟨b, rep_bl r, ?_⟩
    have q : Post X.K et W (RD X.K) σ H H0 Q (if b = true then mb Γ else .ok (.bl false)) := q
    cases b with
    | true => rw [if_pos rfl] at q; exact iteT (g2 _ _ _ _ _ _ _ (c.step s) (q.step back_D s))
    | false => rw [if_neg Bool.false_ne_true] at q; exact iteF (q _ H1 G s (.bl _))
  | _ => exact (q : False).elim
theorem d_if (hc : DT X et ce W c mt) (ha : DE X et ce W a ma) (hb : DE X et ce W b mb) : DE X et ce W (.IfExp c a b pos) (fun Γ => (mt Γ).bind fun k => if k = true then ma Γ else mb Γ) := by
  obtain ⟨t, p, g⟩ := hc
  obtain ⟨t1, p1, g1⟩ := ha
  obtain ⟨t2, p2, g2⟩ := hb
  refine ⟨_, pe_ifExp p p1 p2, fun Hs H0s σ H H0 Γ Q c q => g _ _ _ _ _ _ _ c (Post.next q fun k k' H1 G _ s r q => ?_)⟩
  cases (r : k' = k)
  cases k with
  | true => rw [if_pos rfl] at q; exact iteT (g1 _ _ _ _ _ _ _ (c.step s) (q.step back_D s))
  | false => rw [if_neg Bool.false_ne_true] at q; exact iteF (g2 _ _ _ _ _ _ _ (c.step s) (q.step back_D s))
theorem dt_not (h : DT X et ce W a mt) : DT X et ce W (.UnaryOp .Not a pos) (fun Γ => (mt Γ).bind fun b => .ok (!b)) := by
  obtain ⟨t, p, g⟩ := h
  refine ⟨_, pt_not p, fun Hs H0s σ H H0 Γ Q c q => g _ _ _ _ _ _ _ c (Post.next q fun k k' H1 G _ s r q => ?_)⟩
  cases (r : k' = k)
  exact q _ H1 G s rfl
theorem dt_w (h : DW X et ce W a mt) : DT X et ce W a mt := by
  obtain ⟨t, p, g⟩ := h
  exact ⟨t, p.pt, g⟩
theorem good_and {ta tb : TT} (ga : Good X.K et ce W RB ta mt) (gb : Good X.K et ce W RB tb mu) : Good X.K et ce W RB (tAnd ta tb) (fun Γ => (mt Γ).bind fun b => if b = true then mu Γ else .ok false) := by
  intro Hs H0s σ H H0 Γ Q c q
  refine ga _ _ _ _ _ _ _ c (Post.next q fun k k' H1 G _ s r q => ?_)
  cases (r : k' = k)
  cases k with
  | true => rw [if_pos rfl] at q; exact iteT (gb _ _ _ _ _ _ _ (c.step s) (q.step back_B s))
  | false => rw [if_neg Bool.false_ne_true] at q; exact iteF (q _ H1 G s rfl)
theorem good_or {ta tb : TT} (ga : Good X.K et ce W RB ta mt) (gb : Good X.K et ce W RB tb mu) : Good X.K et ce W RB (tOr ta tb) (fun Γ => (mt Γ).bind fun b => if b = true then .ok true else mu Γ) := by
  intro Hs H0s σ H H0 Γ Q c q
  refine ga _ _ _ _ _ _ _ c (Post.next q fun k k' H1 G _ s r q => ?_)
  cases (r : k' = k)
  cases k with
  | true => rw [if_pos rfl] at q; exact iteT (q _ H1 G s rfl)
  | false => rw [if_neg Bool.false_ne_true] at q; exact iteF (gb _ _ _ _ _ _ _ (c.step s) (q.step back_B s))
theorem dw_and {rest : List Expr} (ha : DT X et ce W a mt) (hb : DW X et ce W (.BoolOp .And (b :: rest) pos) mu) : DW X et ce W (.BoolOp .And (a :: b :: rest) pos) (fun Γ => (mt Γ).bind fun b => if b = true then mu Γ else .ok false) := by
  obtain ⟨t, p, g⟩ := ha
  obtain ⟨t2, p2, g2⟩ := hb
  exact ⟨_, pw_and p p2, good_and g g2⟩
theorem dw_or {rest : List Expr} (ha : DT X et ce W a mt) (hb : DW X et ce W (.BoolOp .Or (b :: rest) pos) mu) : DW X et ce W (.BoolOp .Or (a :: b :: rest) pos) (fun Γ => (mt Γ).bind fun b => if b = true then .ok true else mu Γ) := by
  obtain ⟨t, p, g⟩ := ha
  obtain ⟨t2, p2, g2⟩ := hb
  exact ⟨_, pw_or p p2, good_or g g2⟩
theorem dw_and1 (h : DT X et ce W a mt) : DW X et ce W (.BoolOp .And [a] pos) mt := by
  obtain ⟨t, p, g⟩ := h
  exact ⟨_, pw_and1 p, g⟩
theorem dw_or1 (h : DT X et ce W a mt) : DW X et ce W (.BoolOp .Or [a] pos) mt := by
  obtain ⟨t, p, g⟩ := h
  exact ⟨_, pw_or1 p, g⟩
/-- a op b op' c -/
theorem good_chain {ta tb tc : TE} {g g' : D → D → Option Giv} (ga : Good X.K et ce W (RO X.K) ta ma) (gb : Good X.K et ce W (RO X.K) tb mb) (gc : Good X.K et ce W (RO X.K) tc mc)
    (hb : ∀ d e r, g d e = some r → ∃ k, r = .val (.bl k)) :
    Good X.K et ce W (RD X.K) (tChain (r2D X.K g) (r2D X.K g') ta tb tc) (fun Γ => (ma Γ).bind fun x => (mb Γ).bind fun y => (toR (g x y)).bind fun z => (asB z).bind fun k => if k = true then (mc Γ).bind fun w => toR (g' y w) else .ok (.bl false)) := by
  intro Hs H0s σ H H0 Γ Q c q
  refine ga _ _ _ _ _ _ _ c (Post.next q fun x v H1 G1 _ s r q => gb _ _ _ _ _ _ _ (c.step s) (Post.next (q.step back_D s) fun y v2 H2 G2 _ s2 r2 q => ?_))
  refine ⟨G2, x, y, s2.sub, r.same s2, r2, ?_⟩
  cases hg : g x y with
  | none => rw [hg] at q; exact (q : False).elim
  | some rr =>
    obtain ⟨k, e⟩ := hb _ _ _ hg
    subst e
    rw [hg] at q
    have q : Post X.K et W (RD X.K) σ H1 G1 Q (if k = true then (mc Γ).bind fun w => toR (g' y w) else .ok (.bl false)) := q
    intro w rw_
    cases rep_bl rw_
    refine ⟨k, rfl, ?_⟩
    cases k with
    | false => rw [if_neg Bool.false_ne_true] at q; exact iteF (q _ H2 G2 s2 (.bl _))
    | true =>
      rw [if_pos rfl] at q
      refine iteT (gc _ _ _ _ _ _ _ ((c.step s).step s2) (Post.next (q.step back_D s2) fun z v3 H3 G3 _ s3 r3 q => ?_))
      exact ⟨G3, y, z, s3.sub, r2.same s3, r3, asked (σ := σ) s3.sub (q.step back_D s3)⟩
theorem d_chain {g g' : D → D → Option Giv} (ha : DO X et ce W a ma) (hb : DO X et ce W b mb) (hc : DO X et ce W c mc) (hk : ∀ d e r, g d e = some r → ∃ k, r = .val (.bl k))
    (hp : ∀ ta tb tc, PE X a ta → PE X b tb → PE X c tc → PE X e (tChain (r2D X.K g) (r2D X.K g') ta tb tc)) :
    DE X et ce W e (fun Γ => (ma Γ).bind fun x => (mb Γ).bind fun y => (toR (g x y)).bind fun z => (asB z).bind fun k => if k = true then (mc Γ).bind fun w => toR (g' y w) else .ok (.bl false)) := by
  obtain ⟨t, p, ga⟩ := ha
  obtain ⟨t2, p2, gb⟩ := hb
  obtain ⟨t3, p3, gc⟩ := hc
  exact ⟨_, hp _ _ _ p p2 p3, good_chain ga gb gc hk⟩
theorem dt_chain {g g' : D → D → Option Giv} (ha : DO X et ce W a ma) (hb : DO X et ce W b mb) (hc : DO X et ce W c mc) (hk : ∀ d e r, g d e = some r → ∃ k, r = .val (.bl k))
    (hp : ∀ ta tb tc, PE X a ta → PE X b tb → PE X c tc → PT X e (tTest (tChain (r2D X.K g) (r2D X.K g') ta tb tc))) :
    DT X et ce W e (fun Γ => toB ((ma Γ).bind fun x => (mb Γ).bind fun y => (toR (g x y)).bind fun z => (asB z).bind fun k => if k = true then (mc Γ).bind fun w => toR (g' y w) else .ok (.bl false))) := by
  obtain ⟨t, p, ga⟩ := ha
  obtain ⟨t2, p2, gb⟩ := hb
  obtain ⟨t3, p3, gc⟩ := hc
  exact ⟨_, hp _ _ _ p p2 p3, fun Hs H0s σ H H0 Γ Q c q => good_chain ga gb gc hk _ _ _ _ _ _ _ c (post_B q)⟩
theorem le_bl : ∀ d e r, gLe d e = some r → ∃ k, r = Giv.val (.bl k) := fun d e r h => by
  unfold gLe i2 at h; split at h
  · cases h; exact ⟨_, rfl⟩
  · cases h
/-- a value's truth -/
def truth : D → Res Bool
  | .non => .ok false
  | .bl b => .ok b
  | .int i => .ok (i != 0)
  | .str z => need (z.length ≤ 1000000) (.ok ((z.length : Int) != 0))
  | .lst xs => .ok (!xs.isEmpty)
  | .tup xs => .ok (!xs.isEmpty)
  | .scr xs => .ok (!xs.isEmpty)
  | _ => .stuck
theorem isEmpty_rep {K : PySem.W.Frag} {H : Hp} {vs : List V} {ds : List D} (r : RepAll K H vs ds) : vs.isEmpty = ds.isEmpty := by cases r <;> rfl
theorem dt_truth (hp : ∀ t, PE X a t → PT X a (fun σ H Q => t σ H fun x H' => ∃ k, TruV X.K x H' k ∧ Q k H')) (h : DO X et ce W a m) : DT X et ce W a (fun Γ => (m Γ).bind truth) := by
  obtain ⟨t, p, g⟩ := h
  refine ⟨_, hp _ p, fun Hs H0s σ H H0 Γ Q c q => g _ _ _ _ _ _ _ c (Post.next q fun d v H1 G _ s r q => ?_)⟩
  cases d with
  | non => cases rep_non r; exact ⟨_, rfl, q _ H1 G s rfl⟩
  | bl b => cases rep_bl r; exact ⟨_, rfl, q _ H1 G s rfl⟩
  | int i => cases rep_int r; exact ⟨_, rfl, q _ H1 G s rfl⟩
  | str z => cases rep_str r; exact ⟨_, ⟨line_of (need_if q).1, rfl⟩, (need_if q).2 _ H1 G s rfl⟩
  | lst xs =>
    obtain ⟨p, vs, ev, ha, ra⟩ := r
    subst ev
    exact ⟨_, .inl ⟨vs, SqL.of ha, rfl⟩, by rw [isEmpty_rep ra]; exact q _ H1 G s rfl⟩
  | tup xs => cases r with | tup ha ra => exact ⟨_, .inr (.inl ⟨_, seqT_same s.sub ha, rfl⟩), by rw [isEmpty_rep ra]; exact q _ H1 G s rfl⟩
  | scr ns => cases r with | scr ha => exact ⟨_, .inl ⟨_, s.sub.seq ha, rfl⟩, by rw [show (ns.map V.int).isEmpty = ns.isEmpty by cases ns <;> rfl]; exact q _ H1 G s rfl⟩
  | _ => exact (q : False).elim
/-- a dict of values that are no objects -/
def flatDic : D → Bool
  | .dic _ xs => xs.all flat
  | d => flat d
def pyK : Key → PyData
  | .inl k => .int k
  | .inr x => .str x
/-- as repr shows it -/
def pyS : D → PyData
  | .dic ks xs => .dict ((ks.zip xs).map fun p => (pyK p.1, py p.2))
  | d => py d
def pyR : D → PyData
  | .tup xs => .tuple (xs.map pyS)
  | d => pyS d
def shows : D → Bool
  | .tup xs => plainAll xs || xs.all flatDic
  | .dic ks xs => xs.all flat
  | d => plain d
def gRepr (d : D) : Option Giv := giv (shows d = true ∧ (pyR d).showable = true ∧ (pyR d).depth ≤ 60 ∧ (pyR d).shown.length ≤ sizeLine) (.str (pyR d).shown)
theorem pyAll_map : ∀ xs : List D, plainAll xs = true → pyAll xs = xs.map pyS
  | [], _ => by unfold pyAll; rfl
  | x :: xs, h => by
    unfold plainAll at h
    rw [Bool.and_eq_true] at h
    unfold pyAll
    rw [pyAll_map xs h.2, List.map_cons]
    congr 1
    cases x <;> first | rfl | (unfold plain at h; cases h.1)
theorem py_flat {K : PySem.W.Frag} {H : Hp} {v : V} {d : D} (h : Rep K H v d) (f : flat d = true) : isFlat v = true ∧ flatD v = py d := by
  cases h <;> first | exact ⟨rfl, by unfold py; rfl⟩ | cases f
theorem kv_flat {K : PySem.W.Frag} {H : Hp} : ∀ {kvs : List (Key × V)} {xs : List D}, RepAll K H (kvs.map (·.2)) xs → xs.all flat = true →
    (kvs.all fun p => isFlat p.2) = true ∧ (kvs.map fun p => (kD p.1, flatD p.2)) = ((kvs.map (·.1)).zip xs).map fun p => (pyK p.1, py p.2)
  | [], _, .nil, _ => ⟨rfl, rfl⟩
  | (k, v) :: r, _, .cons h t, f => by
    rw [List.all_cons, Bool.and_eq_true] at f
    obtain ⟨h1, h2⟩ := py_flat h f.1
    obtain ⟨h3, h4⟩ := kv_flat t f.2
    refine ⟨by rw [List.all_cons, h3]; simpa using h1, ?_⟩
    rw [List.map_cons, h4, List.map_cons, List.zip_cons_cons, List.map_cons]
    congr 1
    show (kD k, flatD v) = (pyK k, py _)
    rw [h2]
    cases k <;> rfl
theorem mix_of {K : PySem.W.Frag} {H : Hp} {v : V} {d : D} (h : Rep K H v d) (f : flatDic d = true) : Mix1 H v (pyS d) := by
  cases d with
  | dic ks xs =>
    cases h with | dic ha hk r =>
      obtain ⟨h1, h2⟩ := kv_flat r f
      have := Mix1.dic ha h1
      rw [h2, hk] at this
      exact this
  | _ =>
    obtain ⟨h1, h2⟩ := py_flat h f
    have := Mix1.flat (H := H) h1
    rw [h2] at this
    exact this
theorem mixAll_of {K : PySem.W.Frag} {H : Hp} : ∀ {vs : List V} {ds : List D}, RepAll K H vs ds → ds.all flatDic = true → MixAll H vs (ds.map pyS)
  | _, _, .nil, _ => .nil
  | _, _, .cons h t, f => by
    rw [List.all_cons, Bool.and_eq_true] at f
    exact .cons (mix_of h f.1) (mixAll_of t f.2)
theorem shd_of {K : PySem.W.Frag} {H H0 : Hp} {v : V} {d : D} (s : Same H0 H) (h : RepO K H H0 v d) (f : shows d = true) : ShD K H v (pyR d) := by
  cases d with
  | tup xs =>
    have h : Rep K H0 v (.tup xs) := h
    cases h with
    | tup ha ra =>
      by_cases hp : plainAll xs = true
      · have q := rep_dp (Rep.same s (Rep.tup (K := K) ha ra)) (by unfold plain; exact hp)
        unfold py at q
        rw [pyAll_map xs hp] at q
        exact .data q
      · have f2 : xs.all flatDic = true := by
          unfold shows at f
          rw [Bool.or_eq_true] at f
          exact f.resolve_left hp
        exact .tup (seqT_same s ha) (mixAll_of (ra.same s) f2)
  | dic ks xs =>
    obtain ⟨a, kvs, ev, ha, hk, ra⟩ := h
    subst ev
    obtain ⟨h1, h2⟩ := kv_flat (ra.same s) f
    have := Mix1.dic ha h1
    rw [h2, hk] at this
    exact .mix this
  | _ => exact .data (repO_dp s h f)
theorem b_repr (quiet : Quiet X.A) (hu : X.A.units + 64 < cLine) : CallR X (.builtin "repr") (rc1 (r1D X.K gRepr)) := callr_imp (call_repr quiet hu) fun vs H Q q => by
  obtain ⟨v, ev, H0, d, sub, rd, q⟩ := q
  subst ev
  obtain ⟨⟨h1, h2, h3, h4⟩, q⟩ := asked_giv q
  exact ⟨v, _, rfl, shd_of sub rd h1, h2, h3, h4, q _ (.str _)⟩
end
end DL
namespace DL
open PySem L2 PySem.Spec PyProof.Rows GL
section
variable {X : Cx} {et : ET} {ce : Caught} {W : WX} {e a b c tg : Expr} {es : List Expr} {m ma mb mc : En → Res D} {mt mu : En → Res Bool} {pos p2 : Pos}
theorem walks_lst {K : PySem.W.Frag} {H0 : Hp} {a : Addr} {vs : List V} {ds : List D} (h : H0 a = some (.lst vs)) (r : RepAll K H0 vs ds) : Walks K (Itl K a) H0 ds := walks_list (fun G H s1 s2 => SqL.of (s2 _ _ (s1 _ _ h))) r
def asL : D → Res (List D)
  | .lst xs => .ok xs
  | _ => .stuck
def asT : D → Res (List D)
  | .tup xs => .ok xs
  | _ => .stuck
theorem di_list (h : DE X et ce W a m) : DI X et ce W tg a (fun Γ => (m Γ).bind asL) := by
  obtain ⟨t, p, g⟩ := h
  refine ⟨_, pi_list p, fun Hs H0s σ H H0 Γ Q c q => g _ _ _ _ _ _ _ c (Post.next q fun d v H1 G _ s r q => ?_)⟩
  cases d with
  | lst xs => cases r with | lst ha ra => exact ⟨_, rfl, ⟨_, SqL.of (s.sub _ _ ha)⟩, q _ H1 G s (walks_lst ha ra)⟩
  | _ => exact (q : False).elim
/-- i, i + 1, .., i + n - 1 -/
def rangeD (i : Int) : Nat → List D
  | 0 => []
  | n + 1 => .int i :: rangeD (i + 1) n
theorem rangeD_len (i : Int) (n : Nat) : (rangeD i n).length = n := by
  induction n generalizing i with
  | zero => rfl
  | succ n ih => exact congrArg Nat.succ (ih (i + 1))
theorem rangeD_get (i : Int) {n j : Nat} (h : j < n) : (rangeD i n)[j]? = some (.int (i + j)) := by
  induction n generalizing i j with
  | zero => omega
  | succ n ih =>
    cases j with
    | zero => simp [rangeD]
    | succ j =>
      show (rangeD (i + 1) n)[j]? = _
      rw [ih (i + 1) (by omega)]
      have : i + 1 + (j : Int) = i + ((j + 1 : Nat) : Int) := by omega
      rw [this]
theorem walks_range {K : PySem.W.Frag} {H0 : Hp} (lo : Int) (n : Nat) : Walks K (Itr lo n) H0 (rangeD lo n) := by
  constructor
  · intro i H G hi s1 s2
    rw [rangeD_len] at hi
    refine ⟨hi, fun x H' y => ?_⟩
    obtain ⟨e, e2⟩ := y
    subst e e2
    exact ⟨G, _, rangeD_get lo hi, Step.refl s2, .int _⟩
  · intro i H G hi s1 s2
    rw [rangeD_len] at hi
    exact hi
/-- i, i - 1, .. n numbers -/
def downD (i : Int) : Nat → List D
  | 0 => []
  | n + 1 => .int i :: downD (i - 1) n
theorem downD_len (i : Int) (n : Nat) : (downD i n).length = n := by
  induction n generalizing i with
  | zero => rfl
  | succ n ih => exact congrArg Nat.succ (ih (i - 1))
theorem downD_get (i : Int) {n j : Nat} (h : j < n) : (downD i n)[j]? = some (.int (i - j)) := by
  induction n generalizing i j with
  | zero => omega
  | succ n ih =>
    cases j with
    | zero => simp [downD]
    | succ j =>
      show (downD (i - 1) n)[j]? = _
      rw [ih (i - 1) (by omega)]
      have : i - 1 - (j : Int) = i - ((j + 1 : Nat) : Int) := by omega
      rw [this]
theorem walks_down {K : PySem.W.Frag} {H0 : Hp} (lo : Int) (n : Nat) : Walks K (Itc lo (-1) n) H0 (downD lo n) := by
  constructor
  · intro i H G hi s1 s2
    rw [downD_len] at hi
    refine ⟨hi, fun x H' y => ?_⟩
    obtain ⟨e, e2⟩ := y
    subst e e2
    refine ⟨G, _, downD_get lo hi, Step.refl s2, ?_⟩
    have : lo + (i : Int) * (-1) = lo - i := by omega
    rw [this]
    exact .int _
  · intro i H G hi s1 s2
    rw [downD_len] at hi
    exact hi
def rng1 : List D → Res (List D)
  | [.int n] => need (-1000000 ≤ n ∧ n ≤ 1000000) (.ok (rangeD 0 n.toNat))
  | _ => .stuck
def rng2 : List D → Res (List D)
  | [.int i, .int j] => need (-1000000 ≤ i ∧ i ≤ 1000000 ∧ -1000000 ≤ j ∧ j ≤ 1000000) (.ok (rangeD i (j - i).toNat))
  | _ => .stuck
/-- range(i, j, -1) -/
def rng3 : List D → Res (List D)
  | [.int i, .int j, .int c] => need (c = -1 ∧ -1000000 ≤ i ∧ i ≤ 1000000 ∧ -1000000 ≤ j ∧ j ≤ 1000000) (.ok (downD i (i - j).toNat))
  | _ => .stuck
variable {mas : En → Res (List D)}
theorem di_range1 {p : Pos} (hg : Gl X "range") (hm : X.mg "range" = none) (h : DA X et ce W [a] mas) (hs : starEach [a] X.env = [(false, eval a X.env)] := by rfl) : DI X et ce W tg (.Call (.Name "range" p) [a] [] pos) (fun Γ => (mas Γ).bind rng1) := by
  obtain ⟨t, pa, g⟩ := h
  refine ⟨_, pi_range1 hg hm pa hs, fun Hs H0s σ H H0 Γ Q c q => g _ _ _ _ _ _ _ c (Post.next q fun ds vs H1 G _ s r q => ?_)⟩
  match ds, (show RepAll X.K G vs ds from r), q with
  | [.int n], .cons r1 .nil, q =>
    obtain ⟨hn, q⟩ := need_if q
    cases rep_int r1
    exact ⟨n, rfl, by omega, by omega, q _ H1 G s (walks_range _ _)⟩
theorem di_range3 {p : Pos} (hg : Gl X "range") (hm : X.mg "range" = none) (h : DA X et ce W [a, b, c] mas)
    (hs : starEach [a, b, c] X.env = (false, eval a X.env) :: starEach [b, c] X.env := by rfl) (hpl : (backTo pos (starEach [b, c] X.env)).any (·.1) = false := by rfl) :
    DI X et ce W tg (.Call (.Name "range" p) [a, b, c] [] pos) (fun Γ => (mas Γ).bind rng3) := by
  obtain ⟨t, pa, g⟩ := h
  refine ⟨_, pi_range3 hg hm pa hs hpl, fun Hs H0s σ H H0 Γ Q c q => g _ _ _ _ _ _ _ c (Post.next q fun ds vs H1 G _ s r q => ?_)⟩
  match ds, (show RepAll X.K G vs ds from r), q with
  | [.int i, .int j, .int k], .cons r1 (.cons r2 (.cons r3 .nil)), q =>
    obtain ⟨⟨hk, hn⟩, q2⟩ := need_if q
    subst hk
    cases rep_int r1
    cases rep_int r2
    cases rep_int r3
    exact ⟨i, j, -1, _, rfl, RgC.neg (by omega) (by omega) (by omega) (by omega), q2 _ H1 G s (walks_down _ _)⟩
/-- pairs of a place and an item -/
def enumD : Nat → List D → List D
  | _, [] => []
  | i, x :: r => .tup [.int i, x] :: enumD (i + 1) r
theorem enumD_len : ∀ (i : Nat) (ds : List D), (enumD i ds).length = ds.length
  | _, [] => rfl
  | i, x :: r => congrArg Nat.succ (enumD_len (i + 1) r)
theorem enumD_get : ∀ {i j : Nat} {ds : List D} {d : D}, ds[j]? = some d → (enumD i ds)[j]? = some (.tup [.int ((i + j : Nat) : Int), d])
  | _, _, [], _, h => by simp at h
  | i, 0, x :: r, d, h => by simp at h; subst h; simp [enumD]
  | i, j + 1, x :: r, d, h => by
    show (enumD (i + 1) r)[j]? = _
    rw [enumD_get (i := i + 1) (by simpa using h)]
    have : i + 1 + j = i + (j + 1) := by omega
    rw [this]
theorem walks_enum {K : PySem.W.Frag} {H0 : Hp} {a : Addr} {vs : List V} {ds : List D} (h : H0 a = some (.lst vs)) (r : RepAll K H0 vs ds) : Walks K (Ite K a) H0 (enumD 0 ds) := by
  constructor
  · intro i H G hi s1 s2
    rw [enumD_len] at hi
    have hl : SqL K H a vs := SqL.of (s2 _ _ (s1 _ _ h))
    have hd : ds[i]? = some ds[i] := by simp [hi]
    obtain ⟨v, hv, rv⟩ := r.get hd
    refine ⟨⟨vs, v, hl, hv⟩, fun x H' y => ?_⟩
    obtain ⟨T, w, ex, hT, eH, y⟩ := y
    subst ex eH
    have := y vs hl
    rw [hv] at this
    cases this
    refine ⟨upd G T _, _, enumD_get hd, Step.new s2 hT, .tup (SqT.of upd_same) (.cons ?_ (.cons ((rv.same s1).same (same_upd' (Same.refl _) (none_sub s2 hT))) .nil))⟩
    rw [Nat.zero_add]
    exact .int _
  · intro i H G hi s1 s2
    rw [enumD_len] at hi
    exact ⟨vs, SqL.of (s2 _ _ (s1 _ _ h)), by rw [r.len]; exact hi⟩
theorem di_enum {p tpos : Pos} {elts : List Expr} {kk : Nat} (hg : Gl X "enumerate") (hm : X.mg "enumerate" = none) (h : DE X et ce W a m) (hs : starEach [a] X.env = [(false, eval a X.env)] := by rfl) :
    DI X et ce W (.Tuple elts kk tpos) (.Call (.Name "enumerate" p) [a] [] pos) (fun Γ => (m Γ).bind fun d => (asL d).bind fun xs => .ok (enumD 0 xs)) := by
  obtain ⟨t, pa, g⟩ := h
  refine ⟨_, pi_enum hg hm (pa_cons pa pa_nil (by rw [hs]; rfl)) hs, fun Hs H0s σ H H0 Γ Q c q => g _ _ _ _ _ _ _ c (Post.next q fun d v H1 G _ s r q => ?_)⟩
  cases d with
  | lst xs => cases r with | lst ha ra => exact ⟨_, _, rfl, SqL.of (s.sub _ _ ha), q _ H1 G s (walks_enum ha ra)⟩
  | _ => exact (q : False).elim
def gBits : D → Option Giv
  | .int i => some (.val (.int (Builtin.Int.intBits i : Nat)))
  | _ => none
theorem d_bits (hp : ∀ t, PE X a t → PE X e (tBits t)) (h : DO X et ce W a m) : DE X et ce W e (fun Γ => (m Γ).bind fun x => toR (gBits x)) := by
  obtain ⟨t, p, g⟩ := h
  refine ⟨_, hp _ p, fun Hs H0s σ H H0 Γ Q c q => g _ _ _ _ _ _ _ c (Post.next q fun d v H1 G _ s r q => ?_)⟩
  cases d with
  | int i => exact ⟨i, rep_int r, q _ H1 G s (.int _)⟩
  | _ => exact (q : False).elim
theorem d_dict0 (hp : PE X e tDNewK) : DFD X et ce W e (fun _ => .ok ([], [])) :=
  ⟨_, hp, fun Hs H0s σ H H0 Γ Q c q p n => q _ _ _ (Step.own c.sub n) ⟨p, [], rfl, n, upd_same, none_sub c.sub n, rfl, .nil⟩⟩
end
end DL
namespace DL
open PySem L2 PySem.Spec PyProof.Rows GL
abbrev MD := En → Res D
abbrev ML := En → Res (List D)
def eVar (i : Nat) : MD := fun Γ => getS Γ i
def eVarO (i : Nat) : MD := fun Γ => getO Γ i
def eC (d : D) : MD := fun _ => .ok d
def eNil : ML := fun _ => .ok []
def eCons (m : MD) (ms : ML) : ML := fun Γ => (m Γ).bind fun d => (ms Γ).bind fun ds => .ok (d :: ds)
def eTup (ms : ML) : MD := fun Γ => (ms Γ).bind fun ds => need (ds.length ≤ 1000) (.ok (.tup ds))
def fLst (ms : ML) : ML := fun Γ => (ms Γ).bind fun ds => need (ds.length ≤ 1000) (.ok ds)
def eAll (m : ML) : MD := fun Γ => (m Γ).bind fun xs => .ok (.lst xs)
def eAllD (m : En → Res (List Key × List D)) : MD := fun Γ => (m Γ).bind fun xs => .ok (.dic xs.1 xs.2)
def fDict0 : En → Res (List Key × List D) := fun _ => .ok ([], [])
def eOp (g : D → D → Option Giv) (a b : MD) : MD := fun Γ => (a Γ).bind fun x => (b Γ).bind fun y => toR (g x y)
def fOp (g : D → D → Option Giv) (a b : MD) : ML := fun Γ => (a Γ).bind fun x => (b Γ).bind fun y => toF (g x y)
def eUn (g : D → Option Giv) (a : MD) : MD := fun Γ => (a Γ).bind fun x => toR (g x)
def bB (m : MD) : En → Res Bool := fun Γ => toB (m Γ)
def bTruth (m : MD) : En → Res Bool := fun Γ => (m Γ).bind truth
def pN : En → Res (Option Int) := fun _ => .ok none
def pS (m : MD) : En → Res (Option Int) := fun Γ => (m Γ).bind toI
def eSl (a : MD) (l h : En → Res (Option Int)) : MD := fun Γ => (a Γ).bind fun x => (l Γ).bind fun lo => (h Γ).bind fun hi => toR (gSl lo hi x)
def fSl (a : MD) (l h : En → Res (Option Int)) : ML := fun Γ => (a Γ).bind fun x => (l Γ).bind fun lo => (h Γ).bind fun hi => toF (gSl lo hi x)
def eNot (m : MD) : MD := fun Γ => (m Γ).bind fun d => (asB d).bind fun b => .ok (.bl (!b))
def eAnd (a b : MD) : MD := fun Γ => (a Γ).bind fun d => (asB d).bind fun k => if k = true then b Γ else .ok (.bl false)
def eOr (a b : MD) : MD := fun Γ => (a Γ).bind fun d => (asB d).bind fun k => if k = true then .ok (.bl true) else b Γ
def eIf (t : En → Res Bool) (a b : MD) : MD := fun Γ => (t Γ).bind fun k => if k = true then a Γ else b Γ
def bNot (t : En → Res Bool) : En → Res Bool := fun Γ => (t Γ).bind fun b => .ok (!b)
def bAnd (t u : En → Res Bool) : En → Res Bool := fun Γ => (t Γ).bind fun b => if b = true then u Γ else .ok false
def bOr (t u : En → Res Bool) : En → Res Bool := fun Γ => (t Γ).bind fun b => if b = true then .ok true else u Γ
def bYes : En → Res Bool := fun _ => .ok true
def eChain (g g' : D → D → Option Giv) (a b c : MD) : MD := fun Γ => (a Γ).bind fun x => (b Γ).bind fun y => (toR (g x y)).bind fun z => (asB z).bind fun k => if k = true then (c Γ).bind fun w => toR (g' y w) else .ok (.bl false)
def eCall (M : List D → Res Slot) (ms : ML) : MD := fun Γ => (ms Γ).bind fun ds => (M ds).bind slotD
def fCall (M : List D → Res Slot) (ms : ML) : ML := fun Γ => (ms Γ).bind fun ds => (M ds).bind slotF
def eCall0 (M : List D → Res Slot) : MD := fun _ => (M []).bind slotD
def iLst (m : MD) : ML := fun Γ => (m Γ).bind asL
def iTupl (m : MD) : ML := fun Γ => (m Γ).bind asT
def iR1 (ms : ML) : ML := fun Γ => (ms Γ).bind rng1
def iR2 (ms : ML) : ML := fun Γ => (ms Γ).bind rng2
def iR3 (ms : ML) : ML := fun Γ => (ms Γ).bind rng3
def iEnumr (m : MD) : ML := fun Γ => (m Γ).bind fun d => (asL d).bind fun xs => .ok (enumD 0 xs)
def iRevr (m : MD) : ML := fun Γ => (m Γ).bind fun d => (asL d).bind fun xs => .ok xs.reverse
def sNx : En → Out := fun Γ => .nx Γ
def sRetN : En → Out := fun _ => .rt (.sh .non)
def sFrz (i : Nat) (m : En → Out) : En → Out := fun Γ => m (frz i Γ)
/-- an expression alone -/
def mExpr (m : MD) (Γ : En) : Out := mTo (m Γ) Γ fun _ => .nx Γ
/-- isinstance(e, c) of the caught error e, whose class is x -/
def mErrIsi (i : Nat) (x : String) (b : Bool) (Γ : En) : Res D := match Γ[i]? with
  | some (.er y _) => if y = x then .ok (.bl b) else .stuck
  | _ => .stuck
section
variable {X : Cx} {et : ET} {ce : Caught} {W : WX} {st : Stmt} {e tg e' : Expr} {m : MD} {mt : En → Res Bool} {mi : ML} {mg : D → En → Option En} {vs : List Nat} {g : TG}
theorem d_errIsi {a b : Expr} {i : Nat} {x : String} {C p : Addr} {fld : Str} {cls : Value} {dd : Option Addr} {cv : V} {u : Value} {k : Bool} (hx : et x = some (C, fld))
    (hp : ∀ t, PA X [a, b] t → PE X e (tCB (rErrIs X.K C p cls dd) t)) (ha : PE X a (tVar i)) (hb : PE X b (tC cv)) (hc : ClsV cv u) (hk : PySem.W.kitOne X.K (.ref C) u = some k)
    (hst : starEach (a :: [b]) X.env = (false, eval a X.env) :: starEach [b] X.env := by rfl) (hst2 : starEach (b :: []) X.env = (false, eval b X.env) :: starEach [] X.env := by rfl) :
    DE X et (some (p, cls, dd)) W e (mErrIsi i x k) := by
  refine ⟨_, hp _ (pa_cons ha (pa_cons hb pa_nil hst2) hst), fun Hs H0s σ H H0 Γ Q c q => ?_⟩
  unfold mErrIsi at q
  split at q
  · rename_i y d e
    split at q
    · rename_i hy
      subst hy
      have z := c.at_ i _ e
      match hv : σ[i]?, z with
      | some (some v), ⟨a', C', fld', d', w, e1, e2, e3, e4, r⟩ =>
        rw [hx] at e2
        cases e2
        cases e1
        subst e3
        exact ⟨_, hv, cv, u, k, d', w, fld, rfl, rfl, rfl, c.sub _ _ e4, hc, hk, q _ H H0 (Step.refl c.sub) (.bl _)⟩
    · exact q.elim
  · exact q.elim
theorem d_comp (hp : ∀ wi, PI X tg e wi → PE X e' (tLc wi g (tEM X.K et ce W0 RB mt) (tEM X.K et ce W0 (RD X.K) m) vs)) (hi : DI X et ce W tg e mi) (hg : GoodG X.K et ce vs g mg) : DF X et ce W e' (mComp vs mi mg mt m) := by
  obtain ⟨t, p, gi⟩ := hi
  exact ⟨_, hp t p, good_comp gi hg⟩
theorem ds_setLc {i : Nat} (hp : ∀ wi, PI X tg e wi → PS X st (tAsg (tLc wi g (tEM X.K et ce W0 RB mt) (tEM X.K et ce W0 (RD X.K) m) vs) (gName i))) (hi : DI X et ce W tg e mi) (hg : GoodG X.K et ce vs g mg) : DS X et ce W st (mSet i (eAll (mComp vs mi mg mt m))) := by
  obtain ⟨t, p, gi⟩ := hi
  refine ⟨_, hp t p, fun Hs H0s σ H H0 Γ E c q => good_comp gi hg _ _ _ _ _ _ _ c ?_⟩
  have q : PostS X.K et ce W Hs H0s H0 E (mTo ((mComp vs mi mg mt m Γ).bind fun xs => .ok (.lst xs)) Γ fun d => .nx (Γ.set i (.sh d))) := q
  cases hc : mComp vs mi mg mt m Γ with
  | stuck => rw [hc] at q; exact q.elim
  | exc x d => rw [hc] at q; exact fun C fld dd w H' G e s hd r => q C fld dd w σ H' G e (c.step s) s.small hd r
  | ok xs =>
    rw [hc] at q
    have q : PostS X.K et ce W Hs H0s H0 E (.nx (Γ.set i (.sh (.lst xs)))) := q
    intro v H' G s hv
    obtain ⟨p, vs, ev, hn, hp', h0, r⟩ := hv
    have s2 := Step.share c.sub s hn hp' h0
    exact q _ H' _ ((c.step s2).put i (by subst ev; exact .lst upd_same (r.same (same_upd' (Same.refl _) h0)))) s2.small
end
end DL
namespace DL
open PySem L2 PySem.Spec PyProof.Rows GL
/-- a law's own promise -/
def sp_law (K : PySem.W.Frag) : Sp := fun vs H Q _ => ∃ (a : Addr) (ns : List Int), vs = [.ref a] ∧ SqL K H a (ns.map V.int) ∧ ns.length ≤ 63 ∧ ∀ H', Q (.bl true) H'
/-- what a law is to give -/
def LawTrue (M : List D → Res Slot) : Prop := ∀ ns : List Int, ns.length ≤ 63 → M [.scr ns] = .ok (.sh (.bl true))
theorem law_sp {P : Program} {w : World} {K : PySem.W.Frag} {mg : Str → Option Value} {base : Heap} {cx : CXT} {k : Nat} {f : Addr} {fd : FuncData} {ps : List Str} {et : ET} {M : List D → Res Slot}
    (h : LawTrue M) (F : FnG P w K mg base cx k f fd ps (spD K et 1 M)) : FnG P w K mg base cx k f fd ps (sp_law K) := by
  have up : ∀ vs H Q E, sp_law K vs H Q E → spD K et 1 M vs H Q E := by
    rintro vs H Q E ⟨a, ns, rfl, hS, hl, q⟩
    refine ⟨rfl, H, [.scr ns], Same.refl _, .cons (.scr hS) .nil, ?_⟩
    rw [h ns hl]
    intro v H' G s hv
    cases rep_bl (show Rep K G v (.bl true) from hv)
    exact q H'
  exact ⟨fun vs H Q E z => F.len vs H Q E (up _ _ _ _ z), fun qu hr e b r z => F.go qu hr e b r (up _ _ _ _ z)⟩
theorem walkD {l : PySem.W.OpenLaw} {q : Program} {loose : List Str} {XP : (Str → Option Value) → Heap → Prop} {YP : World → Heap → Prop} {d : DefRec} {K : Params → PySem.W.Frag} {k : Nat} {x : Str} (hn : l.most = some 63) (hdf : d.params.defaults = []) (hr : Room k callerA)
    (hY : ∀ (w : World) (h : Heap), YP w h → (K w.params).In h)
    (F : ∀ (w : World) (mg : Str → Option Value) (fa : Addr) (h : Heap), (K w.params).In h → h.Ns mainGlobals mg → mg d.name = some (.ref fa) →
      ∃ fd : FuncData, (∀ (s : Shared) (u : Value), BindsTo s fd ⟨[u], []⟩ [(x, u)]) ∧ ∀ base : Heap, (K w.params).In base → base.Ns mainGlobals mg → base.NoDigits → FnG l.prog w (K w.params) mg base (L2.CX l.prog w) k fa fd [x] (sp_law (K w.params))) :
    PySem.W.WalkO q loose XP YP l.row.toRowW d [] (fun f vs => PySem.call f vs) :=
  walkG (n := 63) (k := k) (x := x) (cx := fun w => L2.CX l.prog w) (sp := fun w => sp_law (K w.params)) hn (by decide) hdf hr hY F (fun _ _ a ns hl _ hS => ⟨a, ns, rfl, hS, hl, fun _ => rfl⟩)
    fun _ _ _ _ _ ⟨_, _, _, _, _, _, _, _, _, _, _, _, z⟩ => z
end DL
namespace DL
open PySem L2 PySem.Spec PyProof.Rows GL
section
variable {α β : Type}
@[simp] theorem bind_ok (a : α) (k : α → Res β) : (Res.ok a).bind k = k a := rfl
@[simp] theorem bind_exc (x : String) (d : D) (k : α → Res β) : (Res.exc x d).bind k = .exc x d := rfl
@[simp] theorem bind_stuck (k : α → Res β) : (Res.stuck).bind k = .stuck := rfl
@[simp] theorem mTo_ok (a : α) (Γ : En) (k : α → Out) : mTo (.ok a) Γ k = k a := rfl
@[simp] theorem mTo_exc (x : String) (d : D) (Γ : En) (k : α → Out) : mTo (.exc x d) Γ k = .exc x d Γ := rfl
@[simp] theorem mTo_stuck (Γ : En) (k : α → Out) : mTo .stuck Γ k = .stuck := rfl
@[simp] theorem getS_0 (d : D) (Γ : En) : getS (.sh d :: Γ) 0 = .ok d := rfl
@[simp] theorem getS_s (s : Slot) (Γ : En) (i : Nat) : getS (s :: Γ) (i + 1) = getS Γ i := by simp [getS]
@[simp] theorem getO_0 (d : D) (Γ : En) : getO (.sh d :: Γ) 0 = .ok d := rfl
@[simp] theorem getO_0o (xs : List D) (Γ : En) : getO (.own xs :: Γ) 0 = .ok (.lst xs) := rfl
@[simp] theorem getO_0d (ks : List Key) (xs : List D) (Γ : En) : getO (.ownD ks xs :: Γ) 0 = .ok (.dic ks xs) := rfl
@[simp] theorem getO_s (s : Slot) (Γ : En) (i : Nat) : getO (s :: Γ) (i + 1) = getO Γ i := by simp [getO]
@[simp] theorem toR_val (d : D) : toR (some (.val d)) = .ok d := rfl
@[simp] theorem toR_none : toR none = .stuck := rfl
@[simp] theorem toR_newL (ds : List D) : toR (some (.newL ds)) = .ok (.lst ds) := rfl
@[simp] theorem toR_newT (ds : List D) : toR (some (.newT ds)) = .ok (.tup ds) := rfl
@[simp] theorem toF_newL (ds : List D) : toF (some (.newL ds)) = .ok ds := rfl
@[simp] theorem asB_bl (b : Bool) : asB (.bl b) = .ok b := rfl
@[simp] theorem slotD_sh (d : D) : slotD (.sh d) = .ok d := rfl
@[simp] theorem slotD_own (d : List D) : slotD (.own d) = .ok (.lst d) := rfl
@[simp] theorem slotD_ownD (k : List Key) (d : List D) : slotD (.ownD k d) = .ok (.dic k d) := rfl
@[simp] theorem slotF_own (d : List D) : slotF (.own d) = .ok d := rfl
@[simp] theorem toB_ok (b : Bool) : toB (.ok (.bl b)) = .ok b := rfl
@[simp] theorem toB_exc (x : String) (d : D) : toB (.exc x d) = .exc x d := rfl
@[simp] theorem asL_lst (xs : List D) : asL (.lst xs) = .ok xs := rfl
@[simp] theorem asT_tup (xs : List D) : asT (.tup xs) = .ok xs := rfl
@[simp] theorem toI_int (i : Int) : toI (.int i) = .ok (some i) := rfl
@[simp] theorem noX_ok (a : α) : noX (Res.ok a) = .ok a := rfl
@[simp] theorem need_pos {c : Prop} [Decidable c] {r : Res α} (h : c) : need c r = r := if_pos h
@[simp] theorem giv_pos {c : Prop} [Decidable c] {d : D} (h : c) : giv c d = some (.val d) := if_pos h
end
@[simp] theorem eVar_def (i : Nat) (Γ : En) : eVar i Γ = getS Γ i := rfl
@[simp] theorem eVarO_def (i : Nat) (Γ : En) : eVarO i Γ = getO Γ i := rfl
@[simp] theorem eC_def (d : D) (Γ : En) : eC d Γ = .ok d := rfl
@[simp] theorem eNil_def  (Γ : En) : eNil  Γ = .ok [] := rfl
@[simp] theorem eCons_def (m : MD) (ms : ML) (Γ : En) : eCons m ms Γ = (m Γ).bind fun d => (ms Γ).bind fun ds => .ok (d :: ds) := rfl
@[simp] theorem eTup_def (ms : ML) (Γ : En) : eTup ms Γ = (ms Γ).bind fun ds => need (ds.length ≤ 1000) (.ok (.tup ds)) := rfl
@[simp] theorem fLst_def (ms : ML) (Γ : En) : fLst ms Γ = (ms Γ).bind fun ds => need (ds.length ≤ 1000) (.ok ds) := rfl
@[simp] theorem eAll_def (m : ML) (Γ : En) : eAll m Γ = (m Γ).bind fun xs => .ok (.lst xs) := rfl
@[simp] theorem eAllD_def (m : En → Res (List Key × List D)) (Γ : En) : eAllD m Γ = (m Γ).bind fun xs => .ok (.dic xs.1 xs.2) := rfl
@[simp] theorem fDict0_def  (Γ : En) : fDict0  Γ = .ok ([], []) := rfl
@[simp] theorem eOp_def (g : D → D → Option Giv) (a b : MD) (Γ : En) : eOp g a b Γ = (a Γ).bind fun x => (b Γ).bind fun y => toR (g x y) := rfl
@[simp] theorem fOp_def (g : D → D → Option Giv) (a b : MD) (Γ : En) : fOp g a b Γ = (a Γ).bind fun x => (b Γ).bind fun y => toF (g x y) := rfl
@[simp] theorem eUn_def (g : D → Option Giv) (a : MD) (Γ : En) : eUn g a Γ = (a Γ).bind fun x => toR (g x) := rfl
@[simp] theorem bB_def (m : MD) (Γ : En) : bB m Γ = toB (m Γ) := rfl
@[simp] theorem bTruth_def (m : MD) (Γ : En) : bTruth m Γ = (m Γ).bind truth := rfl
@[simp] theorem pN_def  (Γ : En) : pN  Γ = .ok none := rfl
@[simp] theorem pS_def (m : MD) (Γ : En) : pS m Γ = (m Γ).bind toI := rfl
@[simp] theorem eSl_def (a : MD) (l h : En → Res (Option Int)) (Γ : En) : eSl a l h Γ = (a Γ).bind fun x => (l Γ).bind fun lo => (h Γ).bind fun hi => toR (gSl lo hi x) := rfl
@[simp] theorem fSl_def (a : MD) (l h : En → Res (Option Int)) (Γ : En) : fSl a l h Γ = (a Γ).bind fun x => (l Γ).bind fun lo => (h Γ).bind fun hi => toF (gSl lo hi x) := rfl
@[simp] theorem eNot_def (m : MD) (Γ : En) : eNot m Γ = (m Γ).bind fun d => (asB d).bind fun b => .ok (.bl (!b)) := rfl
@[simp] theorem eAnd_def (a b : MD) (Γ : En) : eAnd a b Γ = (a Γ).bind fun d => (asB d).bind fun k => if k = true then b Γ else .ok (.bl false) := rfl
@[simp] theorem eOr_def (a b : MD) (Γ : En) : eOr a b Γ = (a Γ).bind fun d => (asB d).bind fun k => if k = true then .ok (.bl true) else b Γ := rfl
@[simp] theorem eIf_def (t : En → Res Bool) (a b : MD) (Γ : En) : eIf t a b Γ = (t Γ).bind fun k => if k = true then a Γ else b Γ := rfl
@[simp] theorem bNot_def (t : En → Res Bool) (Γ : En) : bNot t Γ = (t Γ).bind fun b => .ok (!b) := rfl
@[simp] theorem bAnd_def (t u : En → Res Bool) (Γ : En) : bAnd t u Γ = (t Γ).bind fun b => if b = true then u Γ else .ok false := rfl
@[simp] theorem bOr_def (t u : En → Res Bool) (Γ : En) : bOr t u Γ = (t Γ).bind fun b => if b = true then .ok true else u Γ := rfl
@[simp] theorem bYes_def  (Γ : En) : bYes  Γ = .ok true := rfl
@[simp] theorem eChain_def (g g' : D → D → Option Giv) (a b c : MD) (Γ : En) : eChain g g' a b c Γ = (a Γ).bind fun x => (b Γ).bind fun y => (toR (g x y)).bind fun z => (asB z).bind fun k => if k = true then (c Γ).bind fun w => toR (g' y w) else .ok (.bl false) := rfl
@[simp] theorem eCall_def (M : List D → Res Slot) (ms : ML) (Γ : En) : eCall M ms Γ = (ms Γ).bind fun ds => (M ds).bind slotD := rfl
@[simp] theorem fCall_def (M : List D → Res Slot) (ms : ML) (Γ : En) : fCall M ms Γ = (ms Γ).bind fun ds => (M ds).bind slotF := rfl
@[simp] theorem eCall0_def (M : List D → Res Slot) (Γ : En) : eCall0 M Γ = (M []).bind slotD := rfl
@[simp] theorem iLst_def (m : MD) (Γ : En) : iLst m Γ = (m Γ).bind asL := rfl
@[simp] theorem iTupl_def (m : MD) (Γ : En) : iTupl m Γ = (m Γ).bind asT := rfl
@[simp] theorem iR1_def (ms : ML) (Γ : En) : iR1 ms Γ = (ms Γ).bind rng1 := rfl
@[simp] theorem iR2_def (ms : ML) (Γ : En) : iR2 ms Γ = (ms Γ).bind rng2 := rfl
@[simp] theorem iR3_def (ms : ML) (Γ : En) : iR3 ms Γ = (ms Γ).bind rng3 := rfl
@[simp] theorem iEnumr_def (m : MD) (Γ : En) : iEnumr m Γ = (m Γ).bind fun d => (asL d).bind fun xs => .ok (enumD 0 xs) := rfl
@[simp] theorem iRevr_def (m : MD) (Γ : En) : iRevr m Γ = (m Γ).bind fun d => (asL d).bind fun xs => .ok xs.reverse := rfl
@[simp] theorem sNx_def  (Γ : En) : sNx  Γ = .nx Γ := rfl
@[simp] theorem sRetN_def  (Γ : En) : sRetN  Γ = .rt (.sh .non) := rfl
@[simp] theorem sFrz_def (i : Nat) (m : En → Out) (Γ : En) : sFrz i m Γ = m (frz i Γ) := rfl
def Out.then : Out → (En → Out) → Out
  | .nx Γ, k => k Γ
  | o, _ => o
@[simp] theorem then_nx (Γ : En) (k : En → Out) : (Out.nx Γ).then k = k Γ := rfl
@[simp] theorem then_rt (s : Slot) (k : En → Out) : (Out.rt s).then k = .rt s := rfl
@[simp] theorem then_exc (x : String) (d : D) (Γ : En) (k : En → Out) : (Out.exc x d Γ).then k = .exc x d Γ := rfl
@[simp] theorem then_bk (Γ : En) (k : En → Out) : (Out.bk Γ).then k = .bk Γ := rfl
@[simp] theorem then_ct (Γ : En) (k : En → Out) : (Out.ct Γ).then k = .ct Γ := rfl
@[simp] theorem seq_eq (a b : En → Out) (Γ : En) : mSeq a b Γ = (a Γ).then b := by
  unfold mSeq Out.then
  cases a Γ <;> rfl
@[simp] theorem set_eq (i : Nat) (m : MD) (Γ : En) : mSet i m Γ = mTo (m Γ) Γ fun d => .nx (Γ.set i (.sh d)) := rfl
@[simp] theorem setF_eq (i : Nat) (m : ML) (Γ : En) : mSetF i m Γ = mTo (m Γ) Γ fun d => .nx (Γ.set i (.own d)) := rfl
@[simp] theorem ret_eq (m : MD) (Γ : En) : mRet m Γ = mTo (m Γ) Γ fun d => .rt (.sh d) := rfl
@[simp] theorem retF_eq (m : ML) (Γ : En) : mRetF m Γ = mTo (m Γ) Γ fun d => .rt (.own d) := rfl
@[simp] theorem expr_eq (m : MD) (Γ : En) : mExpr m Γ = mTo (m Γ) Γ fun _ => .nx Γ := rfl
@[simp] theorem raise_eq (x : String) (m : MD) (Γ : En) : mRaise x m Γ = mTo (m Γ) Γ fun d => .exc x d Γ := rfl
@[simp] theorem if_eq (t : En → Res Bool) (a b : En → Out) (Γ : En) : mIf t a b Γ = mTo (t Γ) Γ fun k => if k = true then a Γ else b Γ := rfl
@[simp] theorem asg_eq (g : D → En → Option En) (m : MD) (Γ : En) : mAsg g m Γ = mTo (m Γ) Γ fun d => (match g d Γ with | some Γ' => .nx Γ' | none => .stuck) := rfl
@[simp] theorem aug_eq (i : Nat) (g : D → D → Option Giv) (m : MD) (Γ : En) : mAug i g m Γ = mTo (getS Γ i) Γ fun x => mTo (m Γ) Γ fun y => mTo (toR (g x y)) Γ fun d => .nx (Γ.set i (.sh d)) := rfl
@[simp] theorem par_eq (i j : Nat) (x y : MD) (Γ : En) : mPar i j (eCons x (eCons y eNil)) Γ = mTo (x Γ) Γ fun a => mTo (y Γ) Γ fun b => .nx ((Γ.set i (.sh a)).set j (.sh b)) := by
  show mTo ((x Γ).bind fun d => ((y Γ).bind fun d2 => Res.ok [d2]).bind fun ds => .ok (d :: ds)) Γ _ = _
  cases x Γ <;> cases y Γ <;> rfl
/-- a slot that holds a list alone -/
def ownAt (Γ : En) (i : Nat) : Option (List D) := match Γ[i]? with
  | some (.own xs) => some xs
  | _ => none
@[simp] theorem ownAt_0 (xs : List D) (Γ : En) : ownAt (.own xs :: Γ) 0 = some xs := rfl
@[simp] theorem ownAt_s (s : Slot) (Γ : En) (i : Nat) : ownAt (s :: Γ) (i + 1) = ownAt Γ i := by simp [ownAt]
@[simp] theorem app_eq (i : Nat) (m : MD) (Γ : En) : mApp i m Γ = (match ownAt Γ i with | some xs => mTo (m Γ) Γ fun d => if xs.length < 1000000 then .nx (Γ.set i (.own (xs ++ [d]))) else .stuck | none => .stuck) := by
  unfold mApp ownAt
  split <;> rename_i h <;> simp [h]
@[simp] theorem retO_eq (i : Nat) (Γ : En) (xs : List D) (h : ownAt Γ i = some xs) : mRetO i Γ = .rt (.own xs) := by
  unfold ownAt at h
  unfold mRetO
  split at h <;> rename_i h2
  · cases h; rw [h2]
  · cases h
@[simp] theorem for_eq (mi : ML) (g : D → En → Option En) (b : En → Out) (Γ : En) : mFor mi g b Γ = mTo (mi Γ) Γ fun xs => forM g b xs Γ := rfl
@[simp] theorem bName_eq (i : Nat) (d : D) (Γ : En) : bName i d Γ = some (Γ.set i (.sh d)) := rfl
@[simp] theorem bOfTup_eq (fs : List (D → En → Option En)) (xs : List D) (Γ : En) : bOfTup fs (.tup xs) Γ = bTup fs xs Γ := rfl
@[simp] theorem bTup_nil (Γ : En) : bTup [] [] Γ = some Γ := rfl
@[simp] theorem bTup_cons (f : D → En → Option En) (fs : List (D → En → Option En)) (d : D) (ds : List D) (Γ : En) : bTup (f :: fs) (d :: ds) Γ = (f d Γ).bind fun Γ' => bTup fs ds Γ' := rfl
/-- behind a turn -/
def Out.turn : Out → (En → Out) → Out
  | .nx Γ, k => k Γ
  | .ct Γ, k => k Γ
  | .bk Γ, _ => .nx Γ
  | o, _ => o
@[simp] theorem turn_nx (Γ : En) (k : En → Out) : (Out.nx Γ).turn k = k Γ := rfl
@[simp] theorem turn_ct (Γ : En) (k : En → Out) : (Out.ct Γ).turn k = k Γ := rfl
@[simp] theorem turn_bk (Γ : En) (k : En → Out) : (Out.bk Γ).turn k = .nx Γ := rfl
@[simp] theorem turn_rt (s : Slot) (k : En → Out) : (Out.rt s).turn k = .rt s := rfl
@[simp] theorem turn_exc (x : String) (d : D) (Γ : En) (k : En → Out) : (Out.exc x d Γ).turn k = .exc x d Γ := rfl
theorem forM_cons (g : D → En → Option En) (b : En → Out) (x : D) (r : List D) (Γ Γ1 : En) (h : g x Γ = some Γ1) : forM g b (x :: r) Γ = (b Γ1).turn (forM g b r) := by
  rw [forM, h]
  dsimp only
  generalize b Γ1 = o
  cases o <;> rfl
theorem whileM_succ (t : En → Res Bool) (b : En → Out) (n : Nat) (Γ : En) : whileM t b (n + 1) Γ = mTo (t Γ) Γ fun k => if k = true then (b Γ).turn (whileM t b n) else .nx Γ := by
  rw [whileM]
  congr 1
  funext k
  cases k
  · rfl
  · rw [if_pos rfl, if_pos rfl]
    generalize b Γ = o
    cases o <;> rfl
/-- a body's answer -/
def Out.res : Out → Res Slot
  | .nx _ => .ok (.sh .non)
  | .rt s => .ok s
  | .exc x d _ => .exc x d
  | _ => .stuck
@[simp] theorem res_nx (Γ : En) : (Out.nx Γ).res = .ok (.sh .non) := rfl
@[simp] theorem res_rt (s : Slot) : (Out.rt s).res = .ok s := rfl
@[simp] theorem res_exc (x : String) (d : D) (Γ : En) : (Out.exc x d Γ).res = .exc x d := rfl
theorem body_eq (N : Nat) (mb : En → Out) (ds : List D) : mBody N mb ds = (mb (startD N ds)).res := by
  unfold mBody Out.res
  cases mb (startD N ds) <;> rfl
section
variable (i j : Int)
@[simp] theorem gSub_int : gSub (.int i) (.int j) = some (.val (.int (i - j))) := rfl
@[simp] theorem gAdd_int : gAdd (.int i) (.int j) = some (.val (.int (i + j))) := rfl
@[simp] theorem gAddI_int : gAddI (.int i) (.int j) = some (.val (.int (i + j))) := rfl
@[simp] theorem gMod_int : gMod (.int i) (.int j) = giv (0 < j) (.int (i % j)) := rfl
theorem gPow_int : gPow (.int i) (.int j) = giv (0 ≤ j ∧ (Builtin.Int.intBits i : Int) * j ≤ 2 ^ 27) (.int (i ^ j.toNat)) := rfl
@[simp] theorem gShr_int : gShr (.int i) (.int j) = giv (0 ≤ j) (.int (i / 2 ^ j.toNat)) := rfl
@[simp] theorem gAnd_int : gAnd (.int i) (.int j) = some (.val (.int (Builtin.bitAnd i j))) := rfl
@[simp] theorem gLt_int : gLt (.int i) (.int j) = some (.val (.bl (decide (i < j)))) := rfl
@[simp] theorem gLe_int : gLe (.int i) (.int j) = some (.val (.bl (decide (i ≤ j)))) := rfl
@[simp] theorem gGt_int : gGt (.int i) (.int j) = some (.val (.bl (decide (j < i)))) := rfl
@[simp] theorem gGe_int : gGe (.int i) (.int j) = some (.val (.bl (decide (j ≤ i)))) := rfl
@[simp] theorem gNeg_int : gNeg (.int i) = some (.val (.int (-i))) := rfl
@[simp] theorem gAbs_int : gAbs (.int i) = some (.val (.int (if i < 0 then -i else i))) := rfl
@[simp] theorem gMax_int : gMax (.int i) (.int j) = some (.val (.int (if j > i then j else i))) := rfl
@[simp] theorem gMin_int : gMin (.int i) (.int j) = some (.val (.int (if j < i then j else i))) := rfl
@[simp] theorem gInt_int : gInt (.int i) = some (.val (.int i)) := rfl
@[simp] theorem gBits_int : gBits (.int i) = some (.val (.int (Builtin.Int.intBits i : Nat))) := rfl
theorem mul_ok {i j : Int} {a b : Nat} (ha : i.natAbs < 2 ^ a) (hb : j.natAbs < 2 ^ b) (h0 : 0 < a) (h1 : 0 < b) (h : a + b ≤ 1000000) : gMul (.int i) (.int j) = some (.val (.int (i * j))) := giv_pos (wide_mul ha hb h0 h1 h)
theorem mulI_ok {i j : Int} {a b : Nat} (ha : i.natAbs < 2 ^ a) (hb : j.natAbs < 2 ^ b) (h0 : 0 < a) (h1 : 0 < b) (h : a + b ≤ 1000000) : gMulI (.int i) (.int j) = some (.val (.int (i * j))) := giv_pos (wide_mul ha hb h0 h1 h)
theorem div_ok {i j : Int} {a : Nat} (h : 0 < j) (ha : j.natAbs < 2 ^ a) (h0 : 0 < a) (h9 : a ≤ 9000) : gDiv (.int i) (.int j) = some (.val (.int (i / j))) := giv_pos ⟨h, .inl (Nat.lt_of_lt_of_le (PySem.Flt.log2_lt_of h0 ha) h9)⟩
end
theorem int_eqOk (i : Int) : eqOk (.int i) = true := by unfold eqOk plain py; rfl
@[simp] theorem gEq_int (i j : Int) : gEq (.int i) (.int j) = some (.val (.bl (i == j))) := by
  show gEqD (.int i) (.int j) = _
  unfold gEqD
  rw [giv_pos ⟨int_eqOk i, int_eqOk j⟩]
  unfold py
  simp [PyData.eqv]
@[simp] theorem gNe_int (i j : Int) : gNe (.int i) (.int j) = some (.val (.bl (!(i == j)))) := by
  show gNeD (.int i) (.int j) = _
  unfold gNeD
  rw [giv_pos ⟨int_eqOk i, int_eqOk j⟩]
  unfold py
  simp [PyData.eqv]
@[simp] theorem gEq_str (x y : Str) : gEq (.str x) (.str y) = some (.val (.bl (x == y))) := rfl
@[simp] theorem gNe_str (x y : Str) : gNe (.str x) (.str y) = some (.val (.bl (!(x == y)))) := rfl
@[simp] theorem gLen_lst (xs : List D) : gLen (.lst xs) = some (.val (.int xs.length)) := rfl
@[simp] theorem gLen_tup (xs : List D) : gLen (.tup xs) = some (.val (.int xs.length)) := rfl
@[simp] theorem gLen_scr (xs : List Int) : gLen (.scr xs) = some (.val (.int xs.length)) := rfl
@[simp] theorem truth_int (i : Int) : truth (.int i) = .ok (i != 0) := rfl
@[simp] theorem truth_bl (b : Bool) : truth (.bl b) = .ok b := rfl
@[simp] theorem truth_lst (xs : List D) : truth (.lst xs) = .ok (!xs.isEmpty) := rfl
theorem gIx_lst (xs : List D) (i : Int) : gIx (.lst xs) (.int i) = (atI xs i).map .val := rfl
theorem gIx_tup (xs : List D) (i : Int) : gIx (.tup xs) (.int i) = (atI xs i).map .val := rfl
theorem atI_nn {α : Type} {xs : List α} {i : Int} {a : α} (h0 : 0 ≤ i) (h : xs[i.toNat]? = some a) : atI xs i = some a := by
  have : ((i.toNat : Nat) : Int) = i := Int.toNat_of_nonneg h0
  rw [← this]
  exact atI_nat h
@[simp] theorem rng1_int (n : Int) : rng1 [.int n] = need (-1000000 ≤ n ∧ n ≤ 1000000) (.ok (rangeD 0 n.toNat)) := rfl
@[simp] theorem rng2_int (i j : Int) : rng2 [.int i, .int j] = need (-1000000 ≤ i ∧ i ≤ 1000000 ∧ -1000000 ≤ j ∧ j ≤ 1000000) (.ok (rangeD i (j - i).toNat)) := rfl
@[simp] theorem rng3_int (i j c : Int) : rng3 [.int i, .int j, .int c] = need (c = -1 ∧ -1000000 ≤ i ∧ i ≤ 1000000 ∧ -1000000 ≤ j ∧ j ≤ 1000000) (.ok (downD i (i - j).toNat)) := rfl
@[simp] theorem startD_eq (N : Nat) (ds : List D) : startD N ds = ds.map Slot.sh ++ List.replicate (N - ds.length) .un := rfl
@[simp] theorem noObj_non  : noObj D.non = true := rfl
@[simp] theorem isi_int_non  : isi .int D.non = false := rfl
@[simp] theorem isi_bool_non  : isi .bool D.non = false := rfl
@[simp] theorem isi_str_non  : isi .str D.non = false := rfl
@[simp] theorem isi_tuple_non  : isi .tuple D.non = false := rfl
@[simp] theorem isi_list_non  : isi .list D.non = false := rfl
@[simp] theorem noObj_bl (b : Bool) : noObj (D.bl b) = true := rfl
@[simp] theorem isi_int_bl (b : Bool) : isi .int (D.bl b) = true := rfl
@[simp] theorem isi_bool_bl (b : Bool) : isi .bool (D.bl b) = true := rfl
@[simp] theorem isi_str_bl (b : Bool) : isi .str (D.bl b) = false := rfl
@[simp] theorem isi_tuple_bl (b : Bool) : isi .tuple (D.bl b) = false := rfl
@[simp] theorem isi_list_bl (b : Bool) : isi .list (D.bl b) = false := rfl
@[simp] theorem noObj_int (i : Int) : noObj (D.int i) = true := rfl
@[simp] theorem isi_int_int (i : Int) : isi .int (D.int i) = true := rfl
@[simp] theorem isi_bool_int (i : Int) : isi .bool (D.int i) = false := rfl
@[simp] theorem isi_str_int (i : Int) : isi .str (D.int i) = false := rfl
@[simp] theorem isi_tuple_int (i : Int) : isi .tuple (D.int i) = false := rfl
@[simp] theorem isi_list_int (i : Int) : isi .list (D.int i) = false := rfl
@[simp] theorem noObj_str (x : Str) : noObj (D.str x) = true := rfl
@[simp] theorem isi_int_str (x : Str) : isi .int (D.str x) = false := rfl
@[simp] theorem isi_bool_str (x : Str) : isi .bool (D.str x) = false := rfl
@[simp] theorem isi_str_str (x : Str) : isi .str (D.str x) = true := rfl
@[simp] theorem isi_tuple_str (x : Str) : isi .tuple (D.str x) = false := rfl
@[simp] theorem isi_list_str (x : Str) : isi .list (D.str x) = false := rfl
@[simp] theorem noObj_tup (xs : List D) : noObj (D.tup xs) = true := rfl
@[simp] theorem isi_int_tup (xs : List D) : isi .int (D.tup xs) = false := rfl
@[simp] theorem isi_bool_tup (xs : List D) : isi .bool (D.tup xs) = false := rfl
@[simp] theorem isi_str_tup (xs : List D) : isi .str (D.tup xs) = false := rfl
@[simp] theorem isi_tuple_tup (xs : List D) : isi .tuple (D.tup xs) = true := rfl
@[simp] theorem isi_list_tup (xs : List D) : isi .list (D.tup xs) = false := rfl
@[simp] theorem noObj_lst (xs : List D) : noObj (D.lst xs) = true := rfl
@[simp] theorem isi_int_lst (xs : List D) : isi .int (D.lst xs) = false := rfl
@[simp] theorem isi_bool_lst (xs : List D) : isi .bool (D.lst xs) = false := rfl
@[simp] theorem isi_str_lst (xs : List D) : isi .str (D.lst xs) = false := rfl
@[simp] theorem isi_tuple_lst (xs : List D) : isi .tuple (D.lst xs) = false := rfl
@[simp] theorem isi_list_lst (xs : List D) : isi .list (D.lst xs) = true := rfl
@[simp] theorem noObj_scr (ns : List Int) : noObj (D.scr ns) = true := rfl
@[simp] theorem isi_int_scr (ns : List Int) : isi .int (D.scr ns) = false := rfl
@[simp] theorem isi_bool_scr (ns : List Int) : isi .bool (D.scr ns) = false := rfl
@[simp] theorem isi_str_scr (ns : List Int) : isi .str (D.scr ns) = false := rfl
@[simp] theorem isi_tuple_scr (ns : List Int) : isi .tuple (D.scr ns) = false := rfl
@[simp] theorem isi_list_scr (ns : List Int) : isi .list (D.scr ns) = true := rfl
@[simp] theorem noObj_dic (ks : List Key) (xs : List D) : noObj (D.dic ks xs) = true := rfl
@[simp] theorem isi_int_dic (ks : List Key) (xs : List D) : isi .int (D.dic ks xs) = false := rfl
@[simp] theorem isi_bool_dic (ks : List Key) (xs : List D) : isi .bool (D.dic ks xs) = false := rfl
@[simp] theorem isi_str_dic (ks : List Key) (xs : List D) : isi .str (D.dic ks xs) = false := rfl
@[simp] theorem isi_tuple_dic (ks : List Key) (xs : List D) : isi .tuple (D.dic ks xs) = false := rfl
@[simp] theorem isi_list_dic (ks : List Key) (xs : List D) : isi .list (D.dic ks xs) = false := rfl
@[simp] theorem gIsi_int_non  : gIsi .int D.non = some (.val (.bl false)) := rfl
@[simp] theorem gIsi_bool_non  : gIsi .bool D.non = some (.val (.bl false)) := rfl
@[simp] theorem gIsi_str_non  : gIsi .str D.non = some (.val (.bl false)) := rfl
@[simp] theorem gIsi_tuple_non  : gIsi .tuple D.non = some (.val (.bl false)) := rfl
@[simp] theorem gIsi_list_non  : gIsi .list D.non = some (.val (.bl false)) := rfl
@[simp] theorem gIsi_int_bl (b : Bool) : gIsi .int (D.bl b) = some (.val (.bl true)) := rfl
@[simp] theorem gIsi_bool_bl (b : Bool) : gIsi .bool (D.bl b) = some (.val (.bl true)) := rfl
@[simp] theorem gIsi_str_bl (b : Bool) : gIsi .str (D.bl b) = some (.val (.bl false)) := rfl
@[simp] theorem gIsi_tuple_bl (b : Bool) : gIsi .tuple (D.bl b) = some (.val (.bl false)) := rfl
@[simp] theorem gIsi_list_bl (b : Bool) : gIsi .list (D.bl b) = some (.val (.bl false)) := rfl
@[simp] theorem gIsi_int_int (i : Int) : gIsi .int (D.int i) = some (.val (.bl true)) := rfl
@[simp] theorem gIsi_bool_int (i : Int) : gIsi .bool (D.int i) = some (.val (.bl false)) := rfl
@[simp] theorem gIsi_str_int (i : Int) : gIsi .str (D.int i) = some (.val (.bl false)) := rfl
@[simp] theorem gIsi_tuple_int (i : Int) : gIsi .tuple (D.int i) = some (.val (.bl false)) := rfl
@[simp] theorem gIsi_list_int (i : Int) : gIsi .list (D.int i) = some (.val (.bl false)) := rfl
@[simp] theorem gIsi_int_str (x : Str) : gIsi .int (D.str x) = some (.val (.bl false)) := rfl
@[simp] theorem gIsi_bool_str (x : Str) : gIsi .bool (D.str x) = some (.val (.bl false)) := rfl
@[simp] theorem gIsi_str_str (x : Str) : gIsi .str (D.str x) = some (.val (.bl true)) := rfl
@[simp] theorem gIsi_tuple_str (x : Str) : gIsi .tuple (D.str x) = some (.val (.bl false)) := rfl
@[simp] theorem gIsi_list_str (x : Str) : gIsi .list (D.str x) = some (.val (.bl false)) := rfl
@[simp] theorem gIsi_int_tup (xs : List D) : gIsi .int (D.tup xs) = some (.val (.bl false)) := rfl
@[simp] theorem gIsi_bool_tup (xs : List D) : gIsi .bool (D.tup xs) = some (.val (.bl false)) := rfl
@[simp] theorem gIsi_str_tup (xs : List D) : gIsi .str (D.tup xs) = some (.val (.bl false)) := rfl
@[simp] theorem gIsi_tuple_tup (xs : List D) : gIsi .tuple (D.tup xs) = some (.val (.bl true)) := rfl
@[simp] theorem gIsi_list_tup (xs : List D) : gIsi .list (D.tup xs) = some (.val (.bl false)) := rfl
@[simp] theorem gIsi_int_lst (xs : List D) : gIsi .int (D.lst xs) = some (.val (.bl false)) := rfl
@[simp] theorem gIsi_bool_lst (xs : List D) : gIsi .bool (D.lst xs) = some (.val (.bl false)) := rfl
@[simp] theorem gIsi_str_lst (xs : List D) : gIsi .str (D.lst xs) = some (.val (.bl false)) := rfl
@[simp] theorem gIsi_tuple_lst (xs : List D) : gIsi .tuple (D.lst xs) = some (.val (.bl false)) := rfl
@[simp] theorem gIsi_list_lst (xs : List D) : gIsi .list (D.lst xs) = some (.val (.bl true)) := rfl
@[simp] theorem gIsi_int_scr (ns : List Int) : gIsi .int (D.scr ns) = some (.val (.bl false)) := rfl
@[simp] theorem gIsi_bool_scr (ns : List Int) : gIsi .bool (D.scr ns) = some (.val (.bl false)) := rfl
@[simp] theorem gIsi_str_scr (ns : List Int) : gIsi .str (D.scr ns) = some (.val (.bl false)) := rfl
@[simp] theorem gIsi_tuple_scr (ns : List Int) : gIsi .tuple (D.scr ns) = some (.val (.bl false)) := rfl
@[simp] theorem gIsi_list_scr (ns : List Int) : gIsi .list (D.scr ns) = some (.val (.bl true)) := rfl
@[simp] theorem gIsi_int_dic (ks : List Key) (xs : List D) : gIsi .int (D.dic ks xs) = some (.val (.bl false)) := rfl
@[simp] theorem gIsi_bool_dic (ks : List Key) (xs : List D) : gIsi .bool (D.dic ks xs) = some (.val (.bl false)) := rfl
@[simp] theorem gIsi_str_dic (ks : List Key) (xs : List D) : gIsi .str (D.dic ks xs) = some (.val (.bl false)) := rfl
@[simp] theorem gIsi_tuple_dic (ks : List Key) (xs : List D) : gIsi .tuple (D.dic ks xs) = some (.val (.bl false)) := rfl
@[simp] theorem gIsi_list_dic (ks : List Key) (xs : List D) : gIsi .list (D.dic ks xs) = some (.val (.bl false)) := rfl
/-- data that repr shows within the line -/
def Shown (d : D) : Prop := shows d = true ∧ (pyR d).showable = true ∧ (pyR d).depth ≤ 60 ∧ (pyR d).shown.length ≤ sizeLine
theorem gRepr_of {d : D} (h : Shown d) : gRepr d = some (.val (.str (pyR d).shown)) := giv_pos h
theorem shown_int {i : Int} (h : i.natAbs < 2 ^ 1900) : Shown (.int i) := by
  have s := Sw.int h
  exact ⟨rfl, s.sh, Nat.le_trans s.dp (Nat.zero_le _), s.len (by decide)⟩
theorem swAll_ints : ∀ {xs : List Int}, (∀ i ∈ xs, i.natAbs < 2 ^ 1900) → SwAll (xs.map PyData.int) 0 xs.length
  | [], _ => .nil
  | x :: r, h => by
    have s := SwAll.cons (Sw.int (h x List.mem_cons_self)) (swAll_ints fun i hi => h i (List.mem_cons_of_mem _ hi))
    have e : 0 + 1 + r.length = (x :: r).length := by simp only [List.length_cons]; omega
    rw [e] at s
    exact s
theorem plain_ints : ∀ xs : List Int, plainAll (xs.map .int) = true
  | [] => rfl
  | _ :: r => plain_ints r
theorem pyS_ints (xs : List Int) : (xs.map D.int).map pyS = xs.map PyData.int := by
  rw [List.map_map]
  rfl
theorem pyR_ints (xs : List Int) : pyR (.tup (xs.map .int)) = .tuple (xs.map .int) := by
  show PyData.tuple ((xs.map D.int).map pyS) = _
  rw [pyS_ints]
theorem shown_ints {xs : List Int} (h : ∀ i ∈ xs, i.natAbs < 2 ^ 1900) (hl : xs.length ≤ 4000) : Shown (.tup (xs.map .int)) := by
  have s := Sw.tuple (swAll_ints h)
  unfold Shown
  rw [pyR_ints]
  refine ⟨?_, s.sh, Nat.le_trans s.dp (by decide), s.len (by omega)⟩
  show (plainAll (xs.map .int) || _) = true
  rw [plain_ints]; rfl
end DL
namespace DL
open PySem L2 PySem.Spec PyProof.Rows GL
end DL
namespace DL
open PySem L2 PySem.Spec PyProof.Rows GL
/-- a loop whose turns go on -/
theorem forM_inv {g : D → En → Option En} {b : En → Out} (P : Nat → En → Prop) : ∀ (xs : List D) (k : Nat) (Γ : En), P k Γ →
    (∀ i x Γ, xs[i]? = some x → P (k + i) Γ → ∃ Γ1 Γ', g x Γ = some Γ1 ∧ (b Γ1 = .nx Γ' ∨ b Γ1 = .ct Γ') ∧ P (k + i + 1) Γ') → ∃ Γ', forM g b xs Γ = .nx Γ' ∧ P (k + xs.length) Γ'
  | [], k, Γ, h, _ => ⟨Γ, rfl, h⟩
  | x :: r, k, Γ, h, hs => by
    obtain ⟨Γ1, Γ', h1, h2, h3⟩ := hs 0 x Γ rfl h
    rw [forM_cons g b x r Γ Γ1 h1]
    have e : (b Γ1).turn (forM g b r) = forM g b r Γ' := by rcases h2 with h2 | h2 <;> rw [h2] <;> rfl
    rw [e]
    obtain ⟨Γ'', e1, e2⟩ := forM_inv P r (k + 1) Γ' h3 fun i x Γ hx hp => by
      have q := hs (i + 1) x Γ (by simpa using hx)
      rw [show k + (i + 1) = k + 1 + i by omega] at q
      exact q hp
    exact ⟨Γ'', e1, by rw [List.length_cons, show k + (r.length + 1) = k + 1 + r.length by omega]; exact e2⟩
/-- a while by a measure -/
theorem whileM_inv {t : En → Res Bool} {b : En → Out} (P : Nat → En → Prop)
    (hs : ∀ m Γ, P m Γ → t Γ = .ok false ∨ (t Γ = .ok true ∧ ∃ Γ' m', (b Γ = .nx Γ' ∨ b Γ = .ct Γ') ∧ m' < m ∧ P m' Γ')) :
    ∀ (n m : Nat) (Γ : En), P m Γ → m < n → ∃ Γ' m', whileM t b n Γ = .nx Γ' ∧ P m' Γ' ∧ t Γ' = .ok false
  | 0, m, Γ, _, h => by omega
  | n + 1, m, Γ, hp, h => by
    rw [whileM_succ]
    rcases hs m Γ hp with e | ⟨e, Γ', m', e2, hm, hp'⟩
    · rw [e]; exact ⟨Γ, m, rfl, hp, e⟩
    · rw [e]
      have e3 : (b Γ).turn (whileM t b n) = whileM t b n Γ' := by rcases e2 with e2 | e2 <;> rw [e2] <;> rfl
      show ∃ Γ'' m'', (if true = true then (b Γ).turn (whileM t b n) else .nx Γ) = .nx Γ'' ∧ _
      rw [if_pos rfl, e3]
      exact whileM_inv P hs n m' Γ' hp' (by omega)
/-- a comprehension that keeps all -/
theorem compM_map {g : D → En → Option En} {m : MD} {Γ : En} (f : D → D) : ∀ (xs : List D), (∀ x ∈ xs, ∃ Γ1, g x Γ = some Γ1 ∧ m Γ1 = .ok (f x)) → compM g bYes m Γ xs = .ok (xs.map f)
  | [], _ => rfl
  | x :: r, h => by
    obtain ⟨Γ1, h1, h2⟩ := h x List.mem_cons_self
    rw [compM, h1]
    dsimp only
    rw [h2, compM_map f r fun y hy => h y (List.mem_cons_of_mem _ hy)]
    rfl
theorem bits_abs {i : Int} {a : Nat} (h : i.natAbs < 2 ^ a) : Builtin.Int.intBits i ≤ a := by
  unfold Builtin.Int.intBits
  split
  · exact Nat.zero_le _
  · rename_i h0
    have h0' : i.natAbs ≠ 0 := by simpa using h0
    have := (Nat.log2_lt h0').mpr h
    omega
theorem pow_ok {i : Int} {j a : Nat} (h : i.natAbs < 2 ^ a) (hb : a * j ≤ 2 ^ 27) : gPow (.int i) (.int (j : Int)) = some (.val (.int (i ^ j))) := by
  have b := bits_abs h
  have c : Builtin.Int.intBits i * j ≤ a * j := Nat.mul_le_mul_right _ b
  rw [gPow_int, giv_pos ⟨by omega, by
    have : ((Builtin.Int.intBits i * j : Nat) : Int) ≤ ((2 ^ 27 : Nat) : Int) := Int.ofNat_le.mpr (Nat.le_trans c hb)
    simpa using this⟩]
  simp
theorem lt_pow {i : Int} {a : Nat} (h0 : 0 ≤ i) (h : i < 2 ^ a) : i.natAbs < 2 ^ a := by
  have e : (i.natAbs : Int) = i := Int.natAbs_of_nonneg h0
  have e2 : ((2 ^ a : Nat) : Int) = 2 ^ a := by simp
  omega
end DL
namespace DL
open PySem L2 PySem.Spec PyProof.Rows GL TL
/-- an integer's signs -/
def intL (i : Int) : List Nat := tl (Str.ofString (toString i))
theorem intL_nat (n : Nat) : intL (n : Int) = numL n := tl_num n
theorem intL_neg (n : Nat) : intL (Int.negSucc n) = 45 :: numL (n + 1) := by
  have e : toString (Int.negSucc n) = "-" ++ toString ((n + 1 : Nat) : Int) := rfl
  have e2 := tl_num (n + 1)
  unfold intL
  rw [e, tl_ofString, String.toList_append, List.map_append]
  rw [tl_ofString] at e2
  rw [e2]
  rfl
theorem intL_free {k : Nat} (hk : k ≠ 45 ∧ (k < 48 ∨ 57 < k)) (i : Int) : k ∉ intL i := int_text_free' k hk i
theorem pair_text (n e : Int) : tl (pyR (.tup [.int n, .int e])).shown = 40 :: (intL n ++ ([44, 32] ++ (intL e ++ [41]))) := by
  have e1 : pyR (.tup [.int n, .int e]) = .tuple [.int n, .int e] := pyR_ints [n, e]
  rw [e1, PyData.shown_tuple]
  rw [tl_append, tl_append, tl_join, PyData.shownAll_cons, PyData.shownAll_cons, PyData.shown_int, PyData.shown_int]
  have e2 : PyData.shownAll [] = [] := by simp only [PyData.shownAll]
  rw [e2]
  show tl ("(" : Str) ++ (intL n ++ (tl ", " ++ intL e)) ++ tl (Str.ofString ")") = _
  simp only [tl_ofString]
  show [40] ++ (intL n ++ ([44, 32] ++ intL e)) ++ [41] = _
  simp
end DL
namespace DL
open PySem L2 PySem.Spec PyProof.Rows GL
def rowD (C : Addr) (b m a f l : D) : D := .obj C [("settings" : Str)] [.tup [b, m, a, f, l]]
def rowParts (C : Addr) : D → Option (List D)
  | .obj C' ns [.tup [b, m, a, f, l]] => if C' = C ∧ ns = [("settings" : Str)] then some [b, m, a, f, l] else none
  | _ => none
def gRow (C : Addr) (i : Nat) (d : D) : Option Giv := match rowParts C d with
  | some xs => (xs[i]?).map .val
  | none => none
def eProp (C : Addr) (i : Nat) (m : MD) : MD := fun Γ => (m Γ).bind fun d => toR (gRow C i d)
end DL
namespace DL
open PySem L2 PySem.Spec PyProof.Rows GL
end DL
namespace DL
open PySem L2 PySem.Spec PyProof.Rows GL
def keyD : D → Option Key
  | .int i => some (.inl i)
  | .str x => some (.inr x)
  | _ => none
def dVal : List Key → List D → Key → Option D
  | k :: ks, x :: xs, j => if k = j then some x else dVal ks xs j
  | _, _, _ => none
end DL
namespace DL
open PySem L2 PySem.Spec PyProof.Rows GL
section
variable {X : Cx} {et : ET} {ce : Caught} {W : WX}
def tDoorW (C : Addr → Sp → Prop) (W : WX) (te : TE) (t : TA) : TE := fun σ H Q => te σ H fun x H1 => ∃ f sp, x = .ref f ∧ C f sp ∧ t σ H1 fun vs H2 => sp vs H2 Q fun c d H => W c d σ H
def CallG (X : Cx) (f : Addr) (sp : Sp) : Prop := PySem.W.keepIn X.K (.ref f) = true ∧ ∃ (k : Nat) (fd : FuncData) (ps : List Str), FnG X.prog X.w X.K X.mg X.base (L2.CX X.prog X.w) k f fd ps sp ∧ Room k X.A ∧ Binds X.K fd ps []
theorem pe_doorG {C : Addr → Sp → Prop} {o i e : Expr} {es : List Expr} {te : TE} {t : TA} {p pos : Pos} (he : PE X (.Subscript o i p) te) (hc : ∀ f sp, C f sp → CallG X f sp) (quiet : Quiet X.A) (tk : Takes X W) (ha : PA X (e :: es) t)
    (hs : starEach (e :: es) X.env = (false, eval e X.env) :: starEach es X.env := by rfl) (hpl : (backTo pos (starEach es X.env)).any (·.1) = false := by rfl) : PE X (.Call (.Subscript o i p) (e :: es) [] pos) (tDoorW C W te t) := by
  refine ⟨fun pins s σ H Q I h => wpAny_Call_Sub (thn (he.run pins s σ H _ I h) ?_)⟩
  rintro v s0 ⟨x, H0, I0, r0, f, sp, rfl, c, q0⟩
  obtain rfl : v = Value.ref f := r0
  obtain ⟨hk, k, fd, ps, F, hr, hb⟩ := hc f sp c
  refine PySem.W.callWith_K (h₀ := X.base) I0.ok.mod.kin hk ?_ hs hpl
  refine thn (ha.run pos pins s0 σ H0 _ I0 q0) ?_
  rintro us s1 ⟨vs, H1, I1, r, q⟩
  exact ⟨I1.kIn, runGS F quiet hr hb tk I1 r q⟩
end
end DL
namespace DL
open PySem L2 PySem.Spec PyProof.Rows GL
end DL
namespace DL
open PySem L2 PySem.Spec PyProof.Rows GL
def asLT : D → Res (List D)
  | .lst xs => .ok xs
  | .tup xs => .ok xs
  | _ => .stuck
@[simp] theorem asLT_lst (xs : List D) : asLT (.lst xs) = .ok xs := rfl
@[simp] theorem asLT_tup (xs : List D) : asLT (.tup xs) = .ok xs := rfl
def iSeq (i : Nat) : ML := fun Γ => (getS Γ i).bind asLT
@[simp] theorem iSeq_def (i : Nat) (Γ : En) : iSeq i Γ = (getS Γ i).bind asLT := rfl
end DL
namespace DL
open PySem L2 PySem.Spec PyProof.Rows GL
def bOfLst (fs : List (D → En → Option En)) (d : D) (Γ : En) : Option En := match d with
  | .lst ds => bTup fs ds Γ
  | _ => none
@[simp] theorem bOfLst_eq (fs : List (D → En → Option En)) (xs : List D) (Γ : En) : bOfLst fs (.lst xs) Γ = bTup fs xs Γ := rfl
end DL
namespace DL
open PySem L2 PySem.Spec PyProof.Rows GL
def fIf (t : En → Res Bool) (a b : ML) : ML := fun Γ => (t Γ).bind fun k => if k = true then a Γ else b Γ
@[simp] theorem fIf_def (t : En → Res Bool) (a b : ML) (Γ : En) : fIf t a b Γ = (t Γ).bind fun k => if k = true then a Γ else b Γ := rfl
end DL
namespace DL
open PySem L2 PySem.Spec PyProof.Rows GL
def intsD : List D → Option (List Int)
  | [] => some []
  | .int i :: r => (intsD r).map (i :: ·)
  | _ => none
@[simp] theorem intsD_map : ∀ (ns : List Int), intsD (ns.map .int) = some ns
  | [] => rfl
  | n :: ns => by simp [intsD, intsD_map ns]
def blsD : List D → Option (List Bool)
  | [] => some []
  | .bl i :: r => (blsD r).map (i :: ·)
  | _ => none
theorem blsD_eq : ∀ {xs : List D} {ns : List Bool}, blsD xs = some ns → xs = ns.map .bl
  | [], _, h => by cases h; rfl
  | .bl i :: r, ns, h => by
    unfold blsD at h
    cases hr : blsD r with
    | none => rw [hr] at h; cases h
    | some ms => rw [hr] at h; cases h; rw [blsD_eq hr]; rfl
  | .non :: _, _, h | .int _ :: _, _, h | .str _ :: _, _, h | .tup _ :: _, _, h | .lst _ :: _, _, h | .scr _ :: _, _, h | .dic _ _ :: _, _, h | .obj _ _ _ :: _, _, h => by cases h
@[simp] theorem blsD_map : ∀ (ns : List Bool), blsD (ns.map .bl) = some ns
  | [] => rfl
  | n :: ns => by simp [blsD, blsD_map ns]
theorem RepAll.ofBls {K : PySem.W.Frag} {H : Hp} : ∀ {vs : List V} {ns : List Bool}, RepAll K H vs (ns.map D.bl) → vs = ns.map V.bl
  | _, [], .nil => rfl
  | _, n :: ns, .cons r t => by cases r; rw [RepAll.ofBls t]; rfl
section
variable {X : Cx}
def gAll : D → Option Giv
  | .lst xs => (blsD xs).bind fun bs => some (.val (.bl (bs.all id)))
  | _ => none
theorem b_all (hc : X.calm = true) : CallR X (.builtin "all") (rc1 (r1D X.K gAll)) := callr_imp (cr_all hc) fun vs H Q q => by
  obtain ⟨v, ev, H0, d, sub, rd, q⟩ := q
  subst ev
  cases d with
  | lst xs =>
    obtain ⟨a, vs, ev, ha, ra⟩ := rd
    have q : Asked X.K H H0 Q ((blsD xs).bind fun bs => some (.val (.bl (bs.all id)))) := q
    cases hi : blsD xs with
    | none => rw [hi] at q; exact q.elim
    | some ns =>
      rw [hi] at q
      have q : Asked X.K H H0 Q (some (.val (.bl (ns.all id)))) := q
      rw [blsD_eq hi] at ra
      rw [RepAll.ofBls ra] at ha
      subst ev
      exact ⟨a, ns, rfl, SqL.of ha, q _ (.bl _)⟩
  | _ => exact q.elim
/-- tuple(xs) -/
def gTupl : D → Option Giv
  | .lst xs => some (.newT xs)
  | .tup xs => some (.val (.tup xs))
  | .scr ns => some (.newT (ns.map .int))
  | _ => none
theorem b_tuple : CallR X (.type "tuple") (rc1 (r1D X.K gTupl)) := callr_imp call_tuple_of fun vs H Q q => by
  obtain ⟨v, ev, H0, d, sub, rd, q⟩ := q
  subst ev
  cases d with
  | lst xs =>
    obtain ⟨a, vs, ev, ha, ra⟩ := rd
    subst ev
    exact ⟨a, vs, rfl, .inl ⟨SqL.of ha, fun l n => q l _ n ra⟩⟩
  | scr ns => cases rd with | scr ha => exact ⟨_, _, rfl, .inl ⟨sub.seq ha, fun l n => q l _ n (RepAll.ints ns)⟩⟩
  | tup xs => cases rd with | tup ha ra => exact ⟨_, _, rfl, .inr ⟨seqT_same sub ha, q _ (.tup ha ra)⟩⟩
  | _ => exact q.elim
end
end DL
namespace DL
open PySem L2 PySem.Spec PyProof.Rows GL
def tOr (t u : TE) : TE := fun σ H Q => t σ H Q ∨ u σ H Q
end DL
namespace DL
open PySem L2 PySem.Spec PyProof.Rows GL
/-- a tuple of texts that stands in the written part -/
def KonT (K : PySem.W.Frag) (a : Addr) (ss : List Str) : Prop :=
  ∃ (od : Option Addr) (us : List Value) (n : Nat) (sl : Array (Option Value)), K.lookup a = some ⟨.type "tuple", od, .seq us.toArray n, sl⟩ ∧ us.length ≤ 1000 ∧ Vals (ss.map V.str) us
theorem rep_texts {K : PySem.W.Frag} {H : Hp} : ∀ ss : List Str, RepAll K H (ss.map V.str) (ss.map D.str)
  | [] => .nil
  | s :: r => .cons (.str s) (rep_texts r)
theorem rep_kon {K : PySem.W.Frag} {a : Addr} {ss : List Str} (h : KonT K a ss) (H : Hp) : Rep K H (.ref a) (.tup (ss.map D.str)) := by
  obtain ⟨od, us, n, sl, e, l, r⟩ := h
  refine .tup (.inr ⟨_, us.toArray, n, e, rfl, rfl, ?_, ?_⟩) (rep_texts ss)
  · rw [List.size_toArray]; exact line_of (by omega)
  · simpa using r
end DL
namespace GL
open PySem L2 PySem.W PySem.Spec PyProof.Rows
end GL
namespace DL
open PySem L2 PySem.Spec PyProof.Rows GL
end DL
namespace DL
open PySem L2 PySem.Spec PyProof.Rows GL
/-- nothing of its own -/
def calm : Slot → Slot
  | .sh d => .sh d
  | _ => .un
theorem calm_alone (s : Slot) : (calm s).alone = false := by cases s <;> rfl
section
variable {K : PySem.W.Frag} {et : ET} {ce : Caught} {Hs H0s H H0 : Hp} {σ : L2.St} {Γ : En}
theorem Stn.calm (c : Stn K et ce Hs H0s σ H H0 Γ) : Stn K et ce Hs H0s σ H H0 (Γ.map DL.calm) := by
  have of : ∀ {i : Nat} {s : Slot}, (Γ.map DL.calm)[i]? = some s → ∃ s', Γ[i]? = some s' ∧ s = DL.calm s' := fun {i s} e => by
    rw [List.getElem?_map] at e
    cases h : Γ[i]? with
    | none => rw [h] at e; cases e
    | some s' => rw [h] at e; cases e; exact ⟨s', rfl, rfl⟩
  refine ⟨c.z, c.st, by simpa using c.len, fun i s e => ?_, fun i j s t p ei ej ai aj => ?_⟩
  · obtain ⟨s', e', rfl⟩ := of e
    have h := c.at_ i s' e'
    cases s' with
    | sh d => exact h
    | _ =>
      show Holds K et ce Hs H H0 _ .un
      cases σ[i]? with
      | none => exact True.intro
      | some v => cases v <;> exact True.intro
  · obtain ⟨s', _, rfl⟩ := of ei
    rw [calm_alone] at ai; cases ai
end
section
variable {X : Cx} {et : ET} {ce : Caught} {W : WX} {e e1 el tg tg1 : Expr} {m : MD} {mi mi1 : ML} {mg mg1 : D → En → Option En} {vs vs1 : List Nat} {pos : Pos}
theorem DI.can (h : DI X et ce W tg e mi) : PI X tg e (tEM X.K et ce W (RI X.K) mi) := by
  obtain ⟨t, p, g⟩ := h
  exact ⟨fun pins s σ H Q I ⟨Hs, H0s, H0, Γ, c, q⟩ => p.run pins s σ H Q I (g _ _ _ _ _ _ _ c q)⟩
def fRev (m : MD) : ML := fun Γ => (m Γ).bind fun d => (asL d).bind fun xs => .ok xs.reverse
theorem d_rev {k : Nat} {p1 p2 p3 : Pos} (h : DE X et ce W e m) : DF X et ce W (.Subscript e (.Slice none none (some (.UnaryOp .USub (.Constant (.int 1) k p1) p2)) p3) pos) (fRev m) := by
  obtain ⟨t, p, g⟩ := h
  refine ⟨_, pe_revL p, fun Hs H0s σ H H0 Γ Q c q => g _ _ _ _ _ _ _ c (Post.next q fun d v H1 G _ s r q => ?_)⟩
  cases d with
  | lst xs =>
    cases r with
    | lst ha ra => exact ⟨_, _, rfl, SqL.of (s.sub _ _ ha), fun p n => q _ _ G (s.trans (Step.own s.sub n)) ⟨p, _, rfl, none_sub s.big n, upd_same, none_sub s.sub n, ra.rev⟩⟩
  | _ => exact (q : False).elim
end
end DL
namespace DL
open PySem L2 PySem.Spec PyProof.Rows GL
end DL
namespace DL
open PySem L2 PySem.Spec PyProof.Rows GL
end DL
namespace DL
open PySem L2 PySem.Spec PyProof.Rows GL
section
variable {X : Cx} {et : ET} {ce : Caught} {W : WX} {e tg e' : Expr} {m : MD}
def iEnumrT (m : MD) : ML := fun Γ => (m Γ).bind fun d => (asT d).bind fun xs => .ok (enumD 0 xs)
@[simp] theorem iEnumrT_def (m : MD) (Γ : En) : iEnumrT m Γ = (m Γ).bind fun d => (asT d).bind fun xs => .ok (enumD 0 xs) := rfl
end
end DL
namespace DL
open PySem L2 PySem.Spec PyProof.Rows GL
end DL
namespace DL
open PySem L2 PySem.Spec PyProof.Rows GL
/-- what is neither written by the walk nor the loop's own list stays -/
def Off (wr : List Addr) (S : Addr) (h h' : Heap) : Prop := ∀ b o, b ∉ wr → b ≠ S → h.get? b = some o → h'.get? b = some o
theorem Off.trans {wr : List Addr} {S : Addr} {h1 h2 h3 : Heap} (x : Off wr S h1 h2) (y : Off wr S h2 h3) : Off wr S h1 h3 := fun b o k1 k2 e => y b o k1 k2 (x b o k1 k2 e)
end DL
namespace DL
open PySem L2 PySem.Spec PyProof.Rows GL
end DL
namespace DL
open PySem L2 PySem.Spec PyProof.Rows GL
end DL
namespace DL
open PySem L2 PySem.Spec PyProof.Rows GL
section
variable {X : Cx} {et : ET} {ce : Caught} {W : WX} {es : List Expr} {st : Stmt}
def mPar3 (i j l : Nat) (ms : En → Res (List D)) (Γ : En) : Out := mTo (ms Γ) Γ fun ds => match ds with
  | [x, y, z] => .nx (((Γ.set i (.sh x)).set j (.sh y)).set l (.sh z))
  | _ => .stuck
end
@[simp] theorem par3_eq (i j l : Nat) (x y z : MD) (Γ : En) : mPar3 i j l (eCons x (eCons y (eCons z eNil))) Γ = mTo (x Γ) Γ fun a => mTo (y Γ) Γ fun b => mTo (z Γ) Γ fun c => .nx (((Γ.set i (.sh a)).set j (.sh b)).set l (.sh c)) := by
  unfold mPar3 eCons eNil
  cases x Γ with
  | ok a =>
    cases y Γ with
    | ok b => cases z Γ <;> rfl
    | _ => rfl
  | _ => rfl
end DL
namespace L2
open PySem PySem.Spec PyProof.Rows
end L2
namespace DL
open PySem L2 PySem.Spec PyProof.Rows GL
end DL
namespace DL
open PySem L2 PySem.Spec PyProof.Rows GL
section
variable {X : Cx} {et : ET} {ce : Caught} {W : WX} {st : Stmt} {e tg : Expr} {mt : En → Res Bool} {m : MD} {mi : ML} {g : TG} {mg : D → En → Option En} {vs : List Nat}
def bBor (i : Nat) (t : En → Res Bool) : En → Res Bool := fun Γ => noX (t (frz i Γ))
end
@[simp] theorem bBor_def (i : Nat) (t : En → Res Bool) (Γ : En) : bBor i t Γ = noX (t (frz i Γ)) := rfl
end DL
namespace DL
open PySem L2 PySem.Spec PyProof.Rows GL
section
variable {X : Cx} {et : ET} {ce : Caught} {W : WX} {e : Expr} {m : MD} {pos p2 : Pos}
def gSlT (lo hi : Option Int) : D → Option Giv
  | .tup xs => if HT.sIx xs.length 0 lo = 0 ∧ HT.sIx xs.length xs.length hi = xs.length then some (.val (.tup xs)) else some (.newT (cutL xs lo hi))
  | _ => none
def eSlT (a : MD) (l h : En → Res (Option Int)) : MD := fun Γ => (a Γ).bind fun x => (l Γ).bind fun lo => (h Γ).bind fun hi => toR (gSlT lo hi x)
end
@[simp] theorem eSlT_def (a : MD) (l h : En → Res (Option Int)) (Γ : En) : eSlT a l h Γ = (a Γ).bind fun x => (l Γ).bind fun lo => (h Γ).bind fun hi => toR (gSlT lo hi x) := rfl
end DL
namespace DL
open PySem L2 PySem.Spec PyProof.Rows GL
end DL
namespace DL
open PySem L2 PySem.Spec PyProof.Rows GL
section
variable {X : Cx} {et : ET} {ce : Caught} {W : WX} {e a b tg i o : Expr} {m mi mo : MD} {pos : Pos}
/-- a key's place in a dict -/
def bInD (mk md : MD) : En → Res Bool := fun Γ => (mk Γ).bind fun k => (md Γ).bind fun d => match d with
  | .dic ks xs => match keyD k with
    | some j => .ok (dVal ks xs j).isSome
    | none => .stuck
  | _ => .stuck
theorem walks_str {K : PySem.W.Frag} {H0 : Hp} (z : Str) : Walks K (Its z) H0 (z.cps.toList.map fun c => D.str ⟨#[c]⟩) := by
  constructor
  · intro i H G hi s1 s2
    rw [List.length_map, Array.length_toList] at hi
    refine ⟨hi, fun x H' y => ?_⟩
    obtain ⟨e, c, hc, ex⟩ := y
    subst e ex
    refine ⟨G, _, ?_, Step.refl s2, .str _⟩
    rw [List.getElem?_map, Array.getElem?_toList, hc]; rfl
  · intro i H G hi s1 s2
    rw [List.length_map, Array.length_toList] at hi
    exact hi
def strL : D → Res (List D)
  | .str z => .ok (z.cps.toList.map fun c => D.str ⟨#[c]⟩)
  | _ => .stuck
def iStrr (m : MD) : ML := fun Γ => (m Γ).bind strL
theorem di_str (h : DE X et ce W a m) : DI X et ce W tg a (iStrr m) := by
  obtain ⟨t, p, g⟩ := h
  refine ⟨_, pi_str p, fun Hs H0s σ H H0 Γ Q c q => g _ _ _ _ _ _ _ c (Post.next q fun d v H1 G _ s r q => ?_)⟩
  cases d with
  | str z => cases r; exact ⟨z, rfl, q _ H1 G s (walks_str z)⟩
  | _ => exact (q : False).elim
end
@[simp] theorem iStrr_def (m : MD) (Γ : En) : iStrr m Γ = (m Γ).bind strL := rfl
@[simp] theorem bInD_def (mk md : MD) (Γ : En) : bInD mk md Γ = (mk Γ).bind fun k => (md Γ).bind fun d => match d with
  | .dic ks xs => match keyD k with
    | some j => .ok (dVal ks xs j).isSome
    | none => .stuck
  | _ => .stuck := rfl
end DL
namespace DL
open PySem L2 PySem.Spec PyProof.Rows GL
def eSIdx (z : Str) (m : MD) : MD := fun Γ => (m Γ).bind fun d => match d with
  | .str y => (match Builtin.Str.occurrences z y 0 z.length 1 with
    | i :: _ => .ok (.int ((i : Nat) : Int))
    | [] => .stuck)
  | _ => .stuck
@[simp] theorem eSIdx_def (z : Str) (m : MD) (Γ : En) : eSIdx z m Γ = (m Γ).bind fun d => match d with
  | .str y => (match Builtin.Str.occurrences z y 0 z.length 1 with
    | i :: _ => .ok (.int ((i : Nat) : Int))
    | [] => .stuck)
  | _ => .stuck := rfl
end DL
namespace DL
open PySem L2 PySem.Spec PyProof.Rows GL
section
variable {X : Cx} {et : ET} {ce : Caught} {W : WX} {e tg e' : Expr} {m : MD}
def iEnumrS (m : MD) : ML := fun Γ => (m Γ).bind fun d => (strL d).bind fun xs => .ok (enumD 0 xs)
@[simp] theorem iEnumrS_def (m : MD) (Γ : En) : iEnumrS m Γ = (m Γ).bind fun d => (strL d).bind fun xs => .ok (enumD 0 xs) := rfl
end
end DL
namespace DL
open PySem L2 PySem.Spec PyProof.Rows GL
end DL
namespace DL
open PySem L2 PySem.Spec PyProof.Rows GL
end DL
namespace DL
open PySem L2 PySem.Spec PyProof.Rows GL
section
variable {X : Cx} {et : ET} {ce : Caught} {W : WX} {e a b : Expr} {ma mb : MD}
def eDGet1 (md mk : MD) : MD := fun Γ => (md Γ).bind fun d => match d with
  | .dic ks xs => (mk Γ).bind fun k => match keyD k with
    | some j => .ok ((dVal ks xs j).getD .non)
    | none => .stuck
  | _ => .stuck
end
@[simp] theorem eDGet1_def (md mk : MD) (Γ : En) : eDGet1 md mk Γ = (md Γ).bind fun d => match d with
  | .dic ks xs => (mk Γ).bind fun k => match keyD k with
    | some j => .ok ((dVal ks xs j).getD .non)
    | none => .stuck
  | _ => .stuck := rfl
end DL
namespace DL
open PySem L2 PySem.Spec PyProof.Rows GL
section
variable {X : Cx} {et : ET} {ce : Caught} {W : WX} {e a b tg : Expr} {vs : List Nat} {mg : D → En → Option En} {ms : En → Out} {pos : Pos} {mb : MD}
/-- d[k], d a name whose dict is locked -/
def eDGetL (i : Nat) (mk : MD) : MD := fun Γ => match Γ[i]? with
  | some (.lk ks xs) => (mk Γ).bind fun k => match keyD k with
    | some j => (match dVal ks xs j with | some x => .ok x | none => .stuck)
    | none => .stuck
  | _ => .stuck
end
@[simp] theorem eDGetL_def (i : Nat) (mk : MD) (Γ : En) : eDGetL i mk Γ = match Γ[i]? with
  | some (.lk ks xs) => (mk Γ).bind fun k => match keyD k with
    | some j => (match dVal ks xs j with | some x => .ok x | none => .stuck)
    | none => .stuck
  | _ => .stuck := rfl
/-- {k: v} -/
def fDict1 (mk mv : MD) : En → Res (List Key × List D) := fun Γ => (mk Γ).bind fun k => (mv Γ).bind fun v => match keyD k with
  | some j => .ok ([j], [v])
  | none => .stuck
@[simp] theorem fDict1_def (mk mv : MD) (Γ : En) : fDict1 mk mv Γ = (mk Γ).bind fun k => (mv Γ).bind fun v => match keyD k with
  | some j => .ok ([j], [v])
  | none => .stuck := rfl
end DL
namespace DL
open PySem L2 PySem.Spec PyProof.Rows GL
/-- where a generator's statement ends; with all that is out -/
inductive GOut where
  | nx (os : List D) (Γ : En)
  | bk (os : List D) (Γ : En)
  | ct (os : List D) (Γ : En)
  | exc (x : String) (d : D) (Γ : En)
  | stuck
def PostN (K : PySem.W.Frag) (et : ET) (ce : Caught) (W : WX) (Hs H0s H0 : Hp) (E : GEnds) : GOut → Prop
  | .nx os Γ => ∀ ys σ H G, Stn K et ce Hs H0s σ H G Γ → Same H0 G → RepAll K G ys os → E.nx ys σ H
  | .bk os Γ => ∀ ys σ H G, Stn K et ce Hs H0s σ H G Γ → Same H0 G → RepAll K G ys os → E.bk ys σ H
  | .ct os Γ => ∀ ys σ H G, Stn K et ce Hs H0s σ H G Γ → Same H0 G → RepAll K G ys os → E.ct ys σ H
  | .exc x d Γ => ∀ C fld dd w σ H G, et x = some (C, fld) → Stn K et ce Hs H0s σ H G Γ → Same H0 G → G dd = some (.xd [(fld, w)]) → Rep K G w d → W (.ref C) (some dd) σ H
  | .stuck => False
theorem PostN.up {K : PySem.W.Frag} {et : ET} {ce : Caught} {W : WX} {Hs H0s H0 G0 : Hp} {E : GEnds} {o : GOut} (s : Same H0 G0) (h : PostN K et ce W Hs H0s H0 E o) : PostN K et ce W Hs H0s G0 E o := by
  cases o with
  | nx os Γ => exact fun ys σ H G c g => h ys σ H G c (Same.trans s g)
  | bk os Γ => exact fun ys σ H G c g => h ys σ H G c (Same.trans s g)
  | ct os Γ => exact fun ys σ H G c g => h ys σ H G c (Same.trans s g)
  | exc x d Γ => exact fun C fld dd w σ H G e c g => h C fld dd w σ H G e c (Same.trans s g)
  | stuck => exact h
end DL
namespace DL
open PySem L2 PySem.Spec PyProof.Rows GL
section
variable {X : Cx} {et : ET} {ce : Caught} {W : WX} {st : Stmt} {sts : List Stmt} {e a b c tg : Expr} {es : List Expr} {m ma mb mc : En → Res D} {pos : Pos}
def gStr : D → Option Giv
  | .int i => giv (i.natAbs.log2 < 1920) (.str (toString i))
  | _ => none
theorem b_str : CallR X (.type "str") (rc1 (r1D X.K gStr)) := callr_imp call_str_int fun vs H Q q => by
  obtain ⟨v, ev, H0, d, sub, rd, q⟩ := q
  subst ev
  cases d with
  | int i =>
    cases rep_int rd
    obtain ⟨h, q⟩ := asked_giv q
    exact ⟨i, rfl, h, q _ (.str _)⟩
  | _ => exact q.elim
def gIntS : D → Option Giv
  | .str z => match PySem.intText? z with
    | some n => giv (z.length ≤ 640) (.int n)
    | none => none
  | _ => none
theorem b_intS : CallR X (.type "int") (rc1 (r1D X.K gIntS)) := callr_imp call_int_str fun vs H Q q => by
  obtain ⟨v, ev, H0, d, sub, rd, q⟩ := q
  subst ev
  cases d with
  | str z =>
    cases rd
    have q : Asked X.K H H0 Q (match PySem.intText? z with | some n => giv (z.length ≤ 640) (.int n) | none => none) := q
    cases hn : PySem.intText? z with
    | none => rw [hn] at q; exact q.elim
    | some n =>
      rw [hn] at q
      obtain ⟨h, q⟩ := asked_giv q
      exact ⟨z, n, rfl, hn, h, q _ (.int _)⟩
  | _ => exact q.elim
def mulS (x : Str) (k : Int) : Str := if k < 1 then Str.empty else if (k == 1 || x.length == 0) = true then x else ⟨(List.replicate k.toNat x.cps).foldl (· ++ ·) #[]⟩
def gMulS : D → D → Option Giv
  | .str x, .int k => giv (0 ≤ k ∧ k ≤ 1) (.str (mulS x k))
  | _, _ => none
theorem o_mulS : OpR X (binaryOp .Mult) (r2D X.K gMulS) := by
  intro pins s σ H x y v u Q I rx ry h
  obtain ⟨H0, d, e, sub, rd, re, q⟩ := h
  cases d with
  | str z => cases e with
    | int k =>
      obtain ⟨⟨h0, h1⟩, q⟩ := asked_giv q
      cases rep_int re
      cases (show Rep X.K H0 x (.str z) from rd)
      obtain ⟨t, rfl⟩ := rx
      obtain ⟨t', rfl⟩ := ry
      have q := q _ (.str _)
      refine P.mul_str (by rw [decide_eq_false (by omega), decide_eq_false (by omega)]; rfl) (fun a b => ?_) (fun a b => ?_) ?_
      · have : k = 1 := by omega
        subst this
        simp at b
      · have : k = 1 := by omega
        subst this
        simp at b
      · unfold mulS at q
        by_cases hk : k < 1
        · rw [if_pos hk] at q ⊢
          exact ⟨by decide, .str _, H, I.tok _, ⟨_, rfl⟩, q⟩
        · have : k = 1 := by omega
          subst this
          rw [if_neg hk, if_pos (by simp)] at q ⊢
          exact ⟨.str z, H, I, ⟨_, rfl⟩, q⟩
    | _ => exact q.elim
  | _ => exact q.elim
theorem mulS_one (x : Str) : mulS x 1 = x := by unfold mulS; simp
theorem mulS_zero (x : Str) : mulS x 0 = Str.empty := by unfold mulS; simp
def eM1 (g : D → D → Option Giv) (ma mb : En → Res D) (Γ : En) : Res D := (ma Γ).bind fun x => match x with
  | .str z => (mb Γ).bind fun y => toR (g (.str z) y)
  | _ => .stuck
def RuleM (K : PySem.W.Frag) (g : D → D → Option Giv) (r : V → List V → Hp → VK → Prop) : Prop :=
  ∀ (z : Str) (y : D) (v : V) (H H0 : Hp) (Q : VK), Same H0 H → Rep K H0 v y → Asked K H H0 Q (g (.str z) y) → r (.str z) [v] H Q
theorem d_m1 {g : D → D → Option Giv} {r : V → List V → Hp → VK → Prop} (hp : ∀ to te, PE X a to → PE X b te → PE X e (tM1 r to te)) (hr : RuleM X.K g r) (ha : DE X et ce W a ma) (hb : DE X et ce W b mb) : DE X et ce W e (eM1 g ma mb) := by
  obtain ⟨t, p, ga⟩ := ha
  obtain ⟨t2, p2, gb⟩ := hb
  refine ⟨_, hp t t2 p p2, fun Hs H0s σ H H0 Γ Q c q => ga _ _ _ _ _ _ _ c (Post.next q fun d v H1 H01 _ s rv q => ?_)⟩
  cases d with
  | str z =>
    cases rv
    refine ⟨⟨z, rfl⟩, gb _ _ _ _ _ _ _ (c.step s) (Post.next (q.step back_D s) fun d2 v2 H2 H02 _ s2 r2 q => ?_)⟩
    exact hr z d2 v2 H2 H02 Q s2.sub r2 (asked (σ := σ) s2.sub (q.step back_D s2))
  | _ => exact (q : False).elim
def gSw : D → D → Option Giv
  | .str x, .str y => some (.val (.bl (Txt.startswith x y)))
  | _, _ => none
theorem r_sw {K : PySem.W.Frag} : RuleM K gSw (fun x xs H Q => ∃ a b, x = .str a ∧ xs = [.str b] ∧ Q (.bl (Txt.startswith a b)) H) := fun z y v H H0 Q s r q => by
  cases y with
  | str w => cases r; exact ⟨z, w, rfl, rfl, q _ (.bl _)⟩
  | _ => exact (q : False).elim
def gPart : D → D → Option Giv
  | .str x, .str y => if (y.length == 0) = false ∧ x.length ≤ 1000000 then some (.newT [.str (Txt.partition x y).1, .str (Txt.partition x y).2.1, .str (Txt.partition x y).2.2]) else none
  | _, _ => none
theorem r_part {K : PySem.W.Frag} : RuleM K gPart (fun x xs H Q => ∃ a b, x = .str a ∧ xs = [.str b] ∧ (b.length == 0) = false ∧ a.length ≤ sizeLine ∧ ∀ p, H p = none → Q (.ref p) (upd H p (.tup [.str (Txt.partition a b).1, .str (Txt.partition a b).2.1, .str (Txt.partition a b).2.2]))) := fun z y v H H0 Q s r q => by
  cases y with
  | str w =>
    cases r
    obtain ⟨⟨h1, h2⟩, q⟩ := asked_if q
    exact ⟨z, w, rfl, rfl, h1, by rw [sizeLine_eq]; omega, fun p n => q p _ n (.cons (.str _) (.cons (.str _) (.cons (.str _) .nil)))⟩
  | _ => exact (q : False).elim
theorem RepAll.strs {K : PySem.W.Frag} {H : Hp} : ∀ ys : List Str, RepAll K H (ys.map V.str) (ys.map D.str)
  | [] => .nil
  | y :: ys => .cons (.str y) (RepAll.strs ys)
theorem RepAll.ofStrs {K : PySem.W.Frag} {H : Hp} : ∀ {vs : List V} {ys : List Str}, RepAll K H vs (ys.map D.str) → vs = ys.map V.str
  | _, [], .nil => rfl
  | _, y :: ys, .cons r t => by cases r; rw [RepAll.ofStrs t]; rfl
def gSplit : D → D → Option Giv
  | .str x, .str y => if (y.length == 0) = false ∧ x.length ≤ 1000000 then some (.newL ((Txt.split x y).map .str)) else none
  | _, _ => none
theorem r_split {K : PySem.W.Frag} : RuleM K gSplit (fun x xs H Q => ∃ a b, x = .str a ∧ xs = [.str b] ∧ (b.length == 0) = false ∧ a.length + 2 ≤ sizeLine ∧ rNewStrs (Txt.split a b) H Q) := fun z y v H H0 Q s r q => by
  cases y with
  | str w =>
    cases r
    obtain ⟨⟨h1, h2⟩, q⟩ := asked_if q
    exact ⟨z, w, rfl, rfl, h1, by rw [sizeLine_eq]; omega, fun p n => q p _ n (RepAll.strs _)⟩
  | _ => exact (q : False).elim
def strsD : List D → Option (List Str)
  | [] => some []
  | .str y :: r => (strsD r).map (y :: ·)
  | _ :: _ => none
theorem strsD_map (ys : List Str) : strsD (ys.map D.str) = some ys := by
  induction ys with
  | nil => rfl
  | cons y r ih => show (strsD (r.map D.str)).map _ = _; rw [ih]; rfl
theorem strsD_eq : ∀ {xs : List D} {ys : List Str}, strsD xs = some ys → xs = ys.map D.str
  | [], _, h => by cases h; rfl
  | .str y :: r, ys, h => by
    have h : (strsD r).map (y :: ·) = some ys := h
    cases hr : strsD r with
    | none => rw [hr] at h; cases h
    | some zs => rw [hr] at h; cases h; rw [strsD_eq hr]; rfl
  | .non :: _, _, h | .bl _ :: _, _, h | .int _ :: _, _, h | .tup _ :: _, _, h | .lst _ :: _, _, h | .scr _ :: _, _, h | .dic _ _ :: _, _, h | .obj _ _ _ :: _, _, h => by cases h
def gJoin : D → D → Option Giv
  | .str z, .lst xs => match strsD xs with
    | some ys => giv ((ys.map (·.length)).sum + ys.length * z.length ≤ 1000000) (.str (Txt.join z ys))
    | none => none
  | _, _ => none
theorem r_join {K : PySem.W.Frag} : RuleM K gJoin (fun x xs H Q => ∃ a p, ∃ ys : List Str, x = .str a ∧ xs = [.ref p] ∧ (SqL K H p (ys.map V.str) ∨ SqT K H p (ys.map V.str)) ∧
      (ys.map (·.length)).sum + ys.length * a.length ≤ 16777216 ∧ Q (.str (Txt.join a ys)) H) := fun z y v H H0 Q s r q => by
  cases y with
  | lst xs =>
    cases r with
    | lst ha ra =>
      have q : Asked K H H0 Q (match strsD xs with | some ys => giv ((ys.map (·.length)).sum + ys.length * z.length ≤ 1000000) (.str (Txt.join z ys)) | none => none) := q
      cases hs : strsD xs with
      | none => rw [hs] at q; exact q.elim
      | some ys =>
        rw [hs] at q
        obtain ⟨h, q⟩ := asked_giv q
        rw [strsD_eq hs] at ra
        have e := ra.ofStrs
        subst e
        exact ⟨z, _, ys, rfl, rfl, .inl (SqL.of (s _ _ ha)), by omega, q _ (.str _)⟩
  | _ => exact (q : False).elim
def stepD (i c : Int) : Nat → List D
  | 0 => []
  | n + 1 => .int i :: stepD (i + c) c n
theorem stepD_len (c : Int) (n : Nat) : ∀ i : Int, (stepD i c n).length = n := by
  induction n with
  | zero => intro i; rfl
  | succ n ih => intro i; exact congrArg Nat.succ (ih (i + c))
theorem stepD_get (c : Int) : ∀ {n : Nat} (i : Int) {j : Nat}, j < n → (stepD i c n)[j]? = some (.int (i + (j : Nat) * c))
  | 0, _, _, h => by omega
  | n + 1, i, 0, _ => by simp [stepD]
  | n + 1, i, j + 1, h => by
    show (stepD (i + c) c n)[j]? = _
    rw [stepD_get c (i + c) (by omega)]
    have : i + c + (j : Int) * c = i + ((j + 1 : Nat) : Int) * c := by rw [Int.natCast_add, Int.add_mul]; omega
    rw [this]
theorem walks_step {K : PySem.W.Frag} {H0 : Hp} (lo c : Int) (n : Nat) : Walks K (Itc lo c n) H0 (stepD lo c n) := by
  constructor
  · intro i H G hi s1 s2
    rw [stepD_len] at hi
    refine ⟨hi, fun x H' y => ?_⟩
    obtain ⟨e, e2⟩ := y
    subst e e2
    exact ⟨G, _, stepD_get c lo hi, Step.refl s2, .int _⟩
  · intro i H G hi s1 s2
    rw [stepD_len] at hi
    exact hi
instance {i j c : Int} {n : Nat} : Decidable (RgC i j c n) := by unfold RgC; infer_instance
def rngS : List D → Res (List D)
  | [.int i, .int j, .int c] => need (RgC i j c (Builtin.Range.rangeSize i j c).toNat) (.ok (stepD i c (Builtin.Range.rangeSize i j c).toNat))
  | _ => .stuck
theorem di_rangeS {p : Pos} {mas : En → Res (List D)} (hg : Gl X "range") (hm : X.mg "range" = none) (h : DA X et ce W [a, b, c] mas)
    (hs : starEach [a, b, c] X.env = (false, eval a X.env) :: starEach [b, c] X.env := by rfl) (hpl : (backTo pos (starEach [b, c] X.env)).any (·.1) = false := by rfl) :
    DI X et ce W tg (.Call (.Name "range" p) [a, b, c] [] pos) (fun Γ => (mas Γ).bind rngS) := by
  obtain ⟨t, pa, g⟩ := h
  refine ⟨_, pi_range3 hg hm pa hs hpl, fun Hs H0s σ H H0 Γ Q c q => g _ _ _ _ _ _ _ c (Post.next q fun ds vs H1 G _ s r q => ?_)⟩
  match ds, (show RepAll X.K G vs ds from r), q with
  | [.int i, .int j, .int k], .cons r1 (.cons r2 (.cons r3 .nil)), q =>
    obtain ⟨hk, q2⟩ := need_if q
    cases rep_int r1
    cases rep_int r2
    cases rep_int r3
    exact ⟨i, j, k, _, rfl, hk, q2 _ H1 G s (walks_step _ _ _)⟩
def iRS (ms : En → Res (List D)) : En → Res (List D) := fun Γ => (ms Γ).bind rngS
variable {mt : En → Res Bool} {mf : En → Res (List D)} {p2 : Pos}
end
end DL
namespace DL
open PySem L2 PySem.Spec PyProof.Rows GL
section
variable {X : Cx} {et : ET} {ce : Caught} {W : WX} {st : Stmt} {e a b c tg : Expr} {es : List Expr} {m ma mb mc : En → Res D} {pos : Pos}
def repS (n : Nat) (x : Str) : Str := ⟨(List.replicate n x.cps.toList).flatten.toArray⟩
theorem foldl_cat (l : List (Array Nat)) : ∀ acc : Array Nat, (l.foldl (· ++ ·) acc).toList = acc.toList ++ (l.map Array.toList).flatten := by
  induction l with
  | nil => intro acc; simp
  | cons x r ih => intro acc; simp [ih]
theorem repS_eq (n : Nat) (x : Str) : (⟨(List.replicate n x.cps).foldl (· ++ ·) #[]⟩ : Str) = repS n x := by
  refine TL.ext_tl ?_
  show ((List.replicate n x.cps).foldl (· ++ ·) #[]).toList = _
  rw [foldl_cat]
  simp [repS, TL.tl]
theorem repS_len (n : Nat) (x : Str) : (repS n x).length = n * x.length := by
  rw [TL.len_tl]
  simp [repS, TL.tl, Str.length]
def gMulN : D → D → Option Giv
  | .str x, .int k => giv (2 ≤ k ∧ k ≤ 1000 ∧ x.length = 1) (.str (repS k.toNat x))
  | _, _ => none
theorem o_mulN : OpR X (binaryOp .Mult) (r2D X.K gMulN) := by
  intro pins s σ H x y v u Q I rx ry h
  obtain ⟨H0, d, e, sub, rd, re, q⟩ := h
  cases d with
  | str z => cases e with
    | int k =>
      obtain ⟨⟨h0, h1, h2⟩, q⟩ := asked_giv q
      cases rep_int re
      cases (show Rep X.K H0 x (.str z) from rd)
      obtain ⟨t, rfl⟩ := rx
      obtain ⟨t', rfl⟩ := ry
      have q := q _ (.str _)
      have nk : ¬ k < 1 := by omega
      have n1 : (k == 1 || z.length == 0) = false := by
        have : (k == 1) = false := by simp; omega
        rw [this, h2]; rfl
      refine P.mul_str (by rw [decide_eq_false (by omega), decide_eq_false (by omega)]; rfl) (fun a b => ?_) (fun a b => ?_) ?_
      · rw [h2]
        have : (2 ^ 63 - 1) / k ≥ 1 := by
          refine Int.le_ediv_of_mul_le (by omega) ?_
          omega
        omega
      · rw [h2]
        show decide (1 * k.toNat > sizeLine) = false
        exact decide_eq_false (by rw [sizeLine_eq]; omega)
      · rw [if_neg nk, if_neg (by rw [n1]; exact Bool.false_ne_true), repS_eq]
        refine ⟨?_, .str _, H, I.tok _, ⟨_, rfl⟩, q⟩
        rw [repS_len, h2, sizeLine_eq]; omega
    | _ => exact q.elim
  | _ => exact q.elim
def gLow : D → Option Giv
  | .str x => giv (x.length ≤ 1000000) (.str (Txt.lower x))
  | _ => none
def eM0 (g : D → Option Giv) (ma : En → Res D) (Γ : En) : Res D := (ma Γ).bind fun x => match x with
  | .str z => toR (g (.str z))
  | _ => .stuck
theorem d_lower (hp : ∀ to, PE X a to → PE X e (tM0 (fun x xs H Q => ∃ a, x = .str a ∧ xs = [] ∧ a.length ≤ 5592405 ∧ Q (.str (Txt.lower a)) H) to)) (ha : DE X et ce W a ma) : DE X et ce W e (eM0 gLow ma) := by
  obtain ⟨t, p, ga⟩ := ha
  refine ⟨_, hp t p, fun Hs H0s σ H H0 Γ Q c q => ga _ _ _ _ _ _ _ c (Post.next q fun d v H1 H01 _ s rv q => ?_)⟩
  cases d with
  | str z =>
    cases rv
    have q := asked (σ := σ) s.sub (q.step back_D s)
    obtain ⟨h, q⟩ := asked_giv (show Asked X.K H1 H01 Q (giv (z.length ≤ 1000000) (.str (Txt.lower z))) from q)
    exact ⟨⟨z, rfl⟩, z, rfl, rfl, by omega, q _ (.str _)⟩
  | _ => exact (q : False).elim
def eDoor3 (M1 M2 M3 : List D → Res Slot) (mi : En → Res D) (mas : En → Res (List D)) : En → Res D := fun Γ => (mi Γ).bind fun d => match d with
  | .int 0 => (mas Γ).bind fun ds => (M1 ds).bind slotD
  | .int 1 => (mas Γ).bind fun ds => (M2 ds).bind slotD
  | .int 2 => (mas Γ).bind fun ds => (M3 ds).bind slotD
  | _ => .stuck
def Three (f g h : Addr) (s1 s2 s3 : Sp) : Addr → Sp → Prop := fun fa sp => (fa = f ∧ sp = s1) ∨ (fa = g ∧ sp = s2) ∨ (fa = h ∧ sp = s3)
theorem d_door3 {f g h : Addr} {n : Nat} {M1 M2 M3 : List D → Res Slot} {e i : Expr} {es : List Expr} {mi : En → Res D} {mas : En → Res (List D)}
    (hp : ∀ ti t, PE X i ti → PA X es t → PE X e (tDoorW (Three f g h (spD X.K et n M1) (spD X.K et n M2) (spD X.K et n M3)) W (tOp (rIxL X.K) (tLst (tCons (tC (.ref f)) (tCons (tC (.ref g)) (tCons (tC (.ref h)) tNil)))) ti) t)) (hi : DE X et ce W i mi) (ha : DAn X et ce W es n mas) :
    DE X et ce W e (eDoor3 M1 M2 M3 mi mas) := by
  obtain ⟨ti, pi, gi⟩ := hi
  obtain ⟨⟨t, p, ga⟩, hn⟩ := ha
  refine ⟨_, hp ti t pi p, fun Hs H0s σ H H0 Γ Q c q => ?_⟩
  refine ⟨by rw [sizeLine_eq]; simp, fun p0 hp0 => ?_⟩
  have s0 : Step H H0 (upd H p0 (.lst [.ref f, .ref g, .ref h])) H0 := Step.own c.sub hp0
  refine gi _ _ _ _ _ _ _ (c.step s0) (Post.next (q.step back_D s0) fun d v H1 H01 _ s1 r q => ?_)
  have hl : SqL X.K H1 p0 [.ref f, .ref g, .ref h] := SqL.of (s1.big _ _ upd_same)
  match d, r, q with
  | .int 0, r, q =>
    cases (show Rep X.K H01 v (.int 0) from r)
    exact ⟨p0, _, 0, .ref f, rfl, rfl, hl, rfl, f, _, rfl, .inl ⟨rfl, rfl⟩, good_call (M := M1) ga hn _ _ _ _ _ _ _ (c.step (s0.trans s1)) (q.step back_D s1)⟩
  | .int 1, r, q =>
    cases (show Rep X.K H01 v (.int 1) from r)
    exact ⟨p0, _, 1, .ref g, rfl, rfl, hl, rfl, g, _, rfl, .inr (.inl ⟨rfl, rfl⟩), good_call (M := M2) ga hn _ _ _ _ _ _ _ (c.step (s0.trans s1)) (q.step back_D s1)⟩
  | .int 2, r, q =>
    cases (show Rep X.K H01 v (.int 2) from r)
    exact ⟨p0, _, 2, .ref h, rfl, rfl, hl, rfl, h, _, rfl, .inr (.inr ⟨rfl, rfl⟩), good_call (M := M3) ga hn _ _ _ _ _ _ _ (c.step (s0.trans s1)) (q.step back_D s1)⟩
  | .int (.ofNat (n + 3)), _, q => exact q.elim
  | .int (.negSucc n), _, q => exact q.elim
  | .non, _, q => exact q.elim
  | .bl _, _, q => exact q.elim
  | .str _, _, q => exact q.elim
  | .tup _, _, q => exact q.elim
  | .lst _, _, q => exact q.elim
  | .scr _, _, q => exact q.elim
  | .dic _ _, _, q => exact q.elim
  | .obj _ _ _, _, q => exact q.elim
end
end DL
namespace PM
open PySem L2 GL DL
noncomputable section
def M_is_whole : List D → Res Slot := mBody 1
  (mRet (eAnd (eUn (gIsi .int) (eVar 0)) (eNot (eUn (gIsi .bool) (eVar 0)))))
def M_is_within : List D → Res Slot := mBody 3
  (mRet (eAnd (eCall M_is_whole (eCons (eVar 0) eNil)) (eChain gLe gLe (eVar 1) (eVar 0) (eVar 2))))
def M_is_place : List D → Res Slot := mBody 1
  (mRet (eCall M_is_within (eCons (eVar 0) (eCons (eUn gNeg (eC (.int 1000))) (eCons (eC (.int 1000)) eNil)))))
def B_power_of_1 : En → Out := (mSeq (mAug 2 gMulI (eVar 2))
  (mIf (bTruth (eOp gAnd (eOp gShr (eVar 1) (eVar 3)) (eC (.int 1))))
  (mAug 2 gMulI (eVar 0))
  sNx))
def M_power_of : List D → Res Slot := mBody 4
  (mSeq (mSet 2 (eC (.int 1)))
  (mSeq (mFor (iR3 (eCons (eOp gSub (eUn gBits (eVar 1)) (eC (.int 1))) (eCons (eUn gNeg (eC (.int 1))) (eCons (eUn gNeg (eC (.int 1))) eNil)))) (bName 3) B_power_of_1)
  (mRet (eVar 2))))
def M_has_few_digits : List D → Res Slot := mBody 1
  (mRet (eOp gLt (eUn gAbs (eVar 0)) (eCall M_power_of (eCons (eC (.int 10)) (eCons (eC (.int 300)) eNil)))))
def M_is_number : List D → Res Slot := mBody 4
  (mSeq (mIf (bOr (bNot (bB (eUn (gIsi .tuple) (eVar 1)))) (bB (eOp gNe (eUn gLen (eVar 1)) (eC (.int 2)))))
  (mRet (eC (.bl false)))
  sNx)
  (mSeq (mAsg (bOfTup [(bName 2), (bName 3)]) (eVar 1))
  (mSeq (mIf (bOr (bNot (bB (eCall M_is_whole (eCons (eVar 2) eNil)))) (bNot (bB (eCall M_is_place (eCons (eVar 3) eNil)))))
  (mRet (eC (.bl false)))
  sNx)
  (mSeq (mIf (bB (eOp gEq (eVar 2) (eC (.int 0))))
  (mRet (eOp gEq (eVar 3) (eC (.int 0))))
  sNx)
  (mRet (eAnd (eOp gNe (eOp gMod (eVar 2) (eVar 0)) (eC (.int 0))) (eCall M_has_few_digits (eCons (eVar 2) eNil))))))))
def M_is_pair : List D → Res Slot := mBody 4
  (mSeq (mIf (bOr (bNot (bB (eUn (gIsi .tuple) (eVar 1)))) (bB (eOp gNe (eUn gLen (eVar 1)) (eC (.int 2)))))
  (mRet (eC (.bl false)))
  sNx)
  (mSeq (mAsg (bOfTup [(bName 2), (bName 3)]) (eVar 1))
  (mRet (eAnd (eCall M_is_number (eCons (eVar 0) (eCons (eVar 2) eNil))) (eCall M_is_place (eCons (eVar 3) eNil))))))
def B_law_numbers_1 : En → Out := (mIf (bAnd (bB (eOp gGe (eVar 3) (eOp gPow (eC (.int 10)) (eC (.int 18))))) (bB (eOp gGt (eVar 4) (eC (.int 0)))))
  (mSeq (mApp 5 (eOp gMod (eVar 4) (eOp gIx (eVar 2) (eVar 6))))
  (mSet 4 (eOp gDiv (eVar 4) (eOp gIx (eVar 2) (eVar 6)))))
  (mSeq (mSet 7 (eOp gMod (eOp gPow (eOp gAdd (eOp gAdd (eOp gMod (eVar 3) (eC (.int 2147483629))) (eOp gMul (eC (.int 7919)) (eVar 1))) (eC (.int 1))) (eC (.int 3))) (eC (.int 2147483647))))
  (mSeq (mSet 7 (eOp gMod (eOp gMul (eOp gAdd (eVar 7) (eOp gMul (eC (.int 104729)) (eOp gAdd (eVar 6) (eC (.int 1))))) (eOp gAdd (eVar 6) (eC (.int 3)))) (eC (.int 2147483629))))
  (mSeq (mSet 7 (eOp gMod (eOp gMul (eOp gMod (eOp gPow (eVar 7) (eC (.int 5))) (eC (.int 2147483647))) (eC (.int 48271))) (eC (.int 2147483629))))
  (mApp 5 (eOp gMod (eOp gDiv (eVar 7) (eC (.int 16))) (eOp gIx (eVar 2) (eVar 6))))))))
def M_law_numbers : List D → Res Slot := mBody 8
  (mSeq (mSet 3 (eOp gMax (eVar 0) (eOp gSub (eUn gNeg (eC (.int 1))) (eVar 0))))
  (mSeq (mSet 4 (eVar 3))
  (mSeq (mSetF 5 (fLst eNil))
  (mSeq (mFor (iR1 (eCons (eUn gLen (eVar 2)) eNil)) (bName 6) B_law_numbers_1)
  (mRetO 5)))))
def M_law_integer_v2 : List D → Res Slot := mBody 4
  (mSeq (mSet 1 (eOp gIx (eAll (fLst (eCons (eC (.int 1)) (eCons (eC (.int 12)) (eCons (eC (.int 420)) (eCons (eOp gMul (eC (.int 420)) (eC (.int 420))) (eCons (eOp gPow (eC (.int 10)) (eC (.int 40))) (eCons (eOp gPow (eC (.int 10)) (eC (.int 60))) eNil)))))))) (eOp gMod (eOp gIx (eVar 0) (eC (.int 0))) (eC (.int 6)))))
  (mSeq (mSet 2 (eOp gAdd (eOp gMul (eOp gAdd (eOp gMul (eOp gIx (eVar 0) (eC (.int 1))) (eC (.int 420))) (eOp gIx (eVar 0) (eC (.int 2)))) (eC (.int 420))) (eOp gIx (eVar 0) (eC (.int 3)))))
  (mSeq (mSet 3 (eOp gAdd (eOp gDiv (eOp gMul (eVar 2) (eOp gAdd (eOp gDiv (eVar 1) (eC (.int 7))) (eC (.int 1)))) (eOp gAdd (eC (.int 1)) (eOp gIx (eVar 0) (eC (.int 4))))) (eOp gMod (eVar 2) (eC (.int 9)))))
  (mRet (eIf (bB (eOp gGt (eOp gMod (eOp gIx (eVar 0) (eC (.int 0))) (eC (.int 13))) (eC (.int 0)))) (eIf (bB (eOp gEq (eOp gMod (eOp gIx (eVar 0) (eC (.int 5))) (eC (.int 2))) (eC (.int 1)))) (eOp gSub (eC (.int 0)) (eVar 3)) (eVar 3)) (eC (.int 0)))))))
def T_law_form_1 : En → Res Bool := (bAnd (bB (eOp gNe (eVar 1) (eC (.int 0)))) (bB (eOp gEq (eOp gMod (eVar 1) (eVar 0)) (eC (.int 0)))))
def B_law_form_1 : En → Out := (mPar 1 2 (eCons (eOp gDiv (eVar 1) (eVar 0)) (eCons (eOp gAdd (eVar 2) (eC (.int 1))) eNil)))
def M_law_form : List D → Res Slot := mBody 3
  (mSeq (whileM T_law_form_1 B_law_form_1 1000000)
  (mRet (eIf (bB (eOp gNe (eVar 1) (eC (.int 0)))) (eTup (eCons (eVar 1) (eCons (eVar 2) eNil))) (eTup (eCons (eC (.int 0)) (eCons (eC (.int 0)) eNil))))))
def M_law_number_v2 : List D → Res Slot := mBody 2
  (mRet (eCall M_law_form (eCons (eVar 0) (eCons (eCall M_law_integer_v2 (eCons (eVar 1) eNil)) (eCons (eOp gSub (eOp gMod (eOp gIx (eVar 1) (eC (.int 6))) (eC (.int 9))) (eC (.int 4))) eNil)))))
def M_law_base : List D → Res Slot := mBody 1
  (mRet (eOp gIx (eAll (fLst (eCons (eC (.int 2)) (eCons (eC (.int 10)) (eCons (eC (.int 3)) (eCons (eC (.int 7)) (eCons (eC (.int 16)) (eCons (eC (.int 36)) (eCons (eC (.int 5)) eNil))))))))) (eOp gMod (eVar 0) (eC (.int 7)))))
def M_law_altered_v4 : List D → Res Slot := mBody 6
  (mSeq (mPar 2 3 (eCons (eOp gMod (eOp gIx (eVar 0) (eC (.int 0))) (eOp gAdd (eUn gLen (eVar 1)) (eC (.int 1)))) (eCons (eOp gIx (eC (.str "0-e@: RA19x+")) (eOp gMod (eOp gIx (eVar 0) (eC (.int 1))) (eC (.int 12)))) eNil)))
  (mSeq (mSet 4 (eM1 gSplit (eVar 1) (eC (.str " "))))
  (mSeq (mSet 5 (eAll (fLst (eCons (eVar 1) (eCons (eOp gAdd (eOp gAdd (eSl (eVar 1) pN (pS (eVar 2))) (eVar 3)) (eSl (eVar 1) (pS (eVar 2)) pN)) (eCons (eOp gAdd (eSl (eVar 1) pN (pS (eVar 2))) (eSl (eVar 1) (pS (eOp gAdd (eVar 2) (eC (.int 1)))) pN)) (eCons (eOp gAdd (eOp gAdd (eSl (eVar 1) pN (pS (eVar 2))) (eVar 3)) (eSl (eVar 1) (pS (eOp gAdd (eVar 2) (eC (.int 1)))) pN)) eNil)))))))
  (mRet (eOp gAdd (eVar 5) (eAll (fLst (eCons (eOp gAdd (eVar 1) (eC (.str " "))) (eCons (eOp gAdd (eC (.str " ")) (eVar 1)) (eCons (eM1 gJoin (eC (.str " ")) (eAll (fRev (eVar 4)))) (eCons (eOp gAdd (eOp gAdd (eVar 1) (eC (.str " "))) (eOp gIx (eVar 4) (eUn gNeg (eC (.int 1))))) (eCons (eOp gAdd (eVar 1) (eC (.str "e0"))) (eCons (eM0 gLow (eVar 1)) eNil)))))))))))))
def M_law_integer_of : List D → Res Slot := mBody 3
  (mSeq (mSet 1 (eIf (bB (eOp gEq (eSl (eVar 0) pN (pS (eC (.int 1)))) (eC (.str "-")))) (eSl (eVar 0) (pS (eC (.int 1))) pN) (eVar 0)))
  (mSeq (mIf (bOr (bB (eOp gEq (eVar 1) (eC (.str "")))) (bB (eOp gNe (eAll (mComp [2] (iStrr (eVar 1)) (bName 2) (bB (eOp (gIn true) (eVar 2) (eC (.str "0123456789")))) (eVar 2))) (eAll (fLst eNil)))))
  (mRet (eC .non))
  sNx)
  (mSeq (mIf (bAnd (bB (eOp gEq (eOp gIx (eVar 1) (eC (.int 0))) (eC (.str "0")))) (bB (eOp gNe (eVar 0) (eC (.str "0")))))
  (mRet (eC .non))
  sNx)
  (mRet (eUn gIntS (eVar 0))))))
def C_law_number_of_1 : MD := (eCall M_law_integer_of (eCons (eVar 6) eNil))
def M_law_number_of : List D → Res Slot := mBody 7
  (mSeq (mSet 2 (eM1 gSplit (eVar 1) (eC (.str "e"))))
  (mSeq (mSet 3 (eAll (mComp [6] (iLst (eVar 2)) (bName 6) bYes C_law_number_of_1)))
  (mSeq (mIf (bOr (bB (eOp gGt (eUn gLen (eVar 2)) (eC (.int 2)))) (bOr (bB (eOp (gIn false) (eC .non) (eVar 3))) (bB (eOp gEq (eSl (eVar 3) (pS (eC (.int 1))) pN) (eAll (fLst (eCons (eC (.int 0)) eNil)))))))
  (mRet (eC .non))
  sNx)
  (mSeq (mSet 4 (eTup (eCons (eOp gIx (eVar 3) (eC (.int 0))) (eCons (eOp gIx (eOp gAdd (eVar 3) (eAll (fLst (eCons (eC (.int 0)) eNil)))) (eC (.int 1))) eNil))))
  (mSeq (mIf (bB (eOp gEq (eOp gIx (eVar 4) (eC (.int 0))) (eC (.int 0))))
  (mRet (eIf (bB (eOp gEq (eOp gIx (eVar 4) (eC (.int 1))) (eC (.int 0)))) (eVar 4) (eC .non)))
  sNx)
  (mSeq (mSet 5 (eAnd (eOp gNe (eOp gMod (eOp gIx (eVar 4) (eC (.int 0))) (eVar 0)) (eC (.int 0))) (eAnd (eOp gLt (eUn gAbs (eOp gIx (eVar 4) (eC (.int 0)))) (eOp gPow (eOp gPow (eC (.int 10)) (eC (.int 60))) (eC (.int 5)))) (eChain gLe gLe (eUn gNeg (eC (.int 1000))) (eOp gIx (eVar 4) (eC (.int 1))) (eC (.int 1000))))))
  (mRet (eIf (bTruth (eVar 5)) (eVar 4) (eC .non)))))))))
def M_law_pair_of : List D → Res Slot := mBody 6
  (mSeq (mSet 3 (eM1 gSplit (eVar 1) (eVar 2)))
  (mSeq (mIf (bB (eOp gNe (eUn gLen (eVar 3)) (eC (.int 2))))
  (mRet (eC .non))
  sNx)
  (mSeq (mPar 4 5 (eCons (eCall M_law_number_of (eCons (eVar 0) (eCons (eOp gIx (eVar 3) (eC (.int 0))) eNil))) (eCons (eCall M_law_integer_of (eCons (eOp gIx (eVar 3) (eC (.int 1))) eNil)) eNil)))
  (mRet (eIf (bAnd (bB (eOp gNotN (eVar 4) (eC .non))) (bAnd (bB (eOp gNotN (eVar 5) (eC .non))) (bB (eChain gLe gLe (eUn gNeg (eC (.int 1000))) (eVar 5) (eC (.int 1000)))))) (eTup (eCons (eVar 4) (eCons (eVar 5) eNil))) (eC .non))))))
def B_law_runs_of_1 : En → Out := (mSeq (mSet 3 (eIf (bB (eOp gGt (eUn gLen (eVar 2)) (eC (.int 1)))) (eCall M_law_integer_of (eCons (eSl (eVar 2) (pS (eC (.int 1))) pN) eNil)) (eC (.int 1))))
  (mSeq (mIf (bOr (bB (eOp (gIn true) (eSl (eVar 2) pN (pS (eC (.int 1)))) (eAll (fLst (eCons (eC (.str "R")) (eCons (eC (.str "L")) (eCons (eC (.str "A")) (eCons (eC (.str "S")) eNil)))))))) (bOr (bB (eOp gIsN (eVar 3) (eC .non))) (bOr (bB (eOp gLt (eVar 3) (eC (.int 1)))) (bAnd (bB (eOp gGt (eUn gLen (eVar 2)) (eC (.int 1)))) (bB (eOp gEq (eVar 3) (eC (.int 1))))))))
  (mRet (eC .non))
  sNx)
  (mSeq (mIf (bAnd (bB (eOp gNe (eVarO 1) (eAll (fLst eNil)))) (bB (eOp gEq (eOp gIx (eOp gIx (eVarO 1) (eUn gNeg (eC (.int 1)))) (eC (.int 0))) (eOp gIx (eVar 2) (eC (.int 0))))))
  (mRet (eC .non))
  sNx)
  (mApp 1 (eTup (eCons (eOp gIx (eVar 2) (eC (.int 0))) (eCons (eVar 3) eNil)))))))
def M_law_runs_of : List D → Res Slot := mBody 4
  (mSeq (mSetF 1 (fLst eNil))
  (mSeq (mFor (iLst (eIf (bB (eOp gNe (eVar 0) (eC (.str "-")))) (eM1 gSplit (eVar 0) (eC (.str " "))) (eAll (fLst eNil)))) (bName 2) B_law_runs_of_1)
  (mRetO 1)))
def M_law_want_v6 : List D → Res Slot := mBody 4
  (mSeq (mSetF 3 (fLst (eCons (eCall M_law_number_of (eCons (eVar 1) (eCons (eVar 2) eNil))) (eCons (eCall M_law_pair_of (eCons (eVar 1) (eCons (eVar 2) (eCons (eC (.str "@")) eNil)))) (eCons (eCall M_law_pair_of (eCons (eVar 1) (eCons (eVar 2) (eCons (eC (.str ":")) eNil)))) eNil)))))
  (mSeq (mApp 3 (eCall M_law_runs_of (eCons (eVar 2) eNil)))
  (mRet (eIf (bB (eOp gIsN (eOp gIx (eVarO 3) (eVar 0)) (eC .non))) (eAll (fLst (eCons (eC (.str "text")) (eCons (eUn gRepr (eVar 2)) (eCons (eC (.bl true)) (eCons (eC (.bl false)) eNil)))))) (eOp gIx (eVarO 3) (eVar 0))))))
def C_integer_in_1 : MD := (eOp (gIn false) (eVar 5) (eC (.str "0123456789")))
def B_integer_in_1 : En → Out := (mSeq (mSet 4 (eSl (eVar 1) (pS (eVar 3)) (pS (eOp gAdd (eVar 3) (eC (.int 1000))))))
  (mSet 2 (eOp gAdd (eOp gMul (eVar 2) (eCall M_power_of (eCons (eC (.int 10)) (eCons (eUn gLen (eVar 4)) eNil)))) (eUn gIntS (eVar 4)))))
def M_integer_in : List D → Res Slot := mBody 6
  (mSeq (mSet 1 (eIf (bB (eM1 gSw (eVar 0) (eC (.str "-")))) (eSl (eVar 0) (pS (eC (.int 1))) pN) (eVar 0)))
  (mSeq (mIf (bOr (bNot (bTruth (eVar 1))) (bNot (bB (eUn gAll (eAll (mComp [5] (iStrr (eVar 1)) (bName 5) bYes C_integer_in_1))))))
  (mRet (eC .non))
  sNx)
  (mSeq (mIf (bAnd (bB (eOp gEq (eOp gIx (eVar 1) (eC (.int 0))) (eC (.str "0")))) (bB (eOp gNe (eVar 0) (eC (.str "0")))))
  (mRet (eC .non))
  sNx)
  (mSeq (mSet 2 (eC (.int 0)))
  (mSeq (mFor (iRS (eCons (eC (.int 0)) (eCons (eUn gLen (eVar 1)) (eCons (eC (.int 1000)) eNil)))) (bName 3) B_integer_in_1)
  (mRet (eIf (bB (eM1 gSw (eVar 0) (eC (.str "-")))) (eUn gNeg (eVar 2)) (eVar 2))))))))
def M_run_in : List D → Res Slot := mBody 2
  (mSeq (mIf (bB (eOp gEq (eUn gLen (eVar 0)) (eC (.int 1))))
  (mRet (eTup (eCons (eVar 0) (eCons (eC (.int 1)) eNil))))
  sNx)
  (mSeq (mSet 1 (eCall M_integer_in (eCons (eSl (eVar 0) (pS (eC (.int 1))) pN) eNil)))
  (mRet (eIf (bB (eOp gEq (eVar 1) (eC (.int 1)))) (eC .non) (eTup (eCons (eSl (eVar 0) pN (pS (eC (.int 1)))) (eCons (eVar 1) eNil)))))))
def M_is_run : List D → Res Slot := mBody 3
  (mSeq (mIf (bOr (bNot (bB (eUn (gIsi .tuple) (eVar 0)))) (bB (eOp gNe (eUn gLen (eVar 0)) (eC (.int 2)))))
  (mRet (eC (.bl false)))
  sNx)
  (mSeq (mAsg (bOfTup [(bName 1), (bName 2)]) (eVar 0))
  (mSeq (mIf (bOr (bNot (bB (eCall M_is_whole (eCons (eVar 2) eNil)))) (bB (eOp gLt (eVar 2) (eC (.int 1)))))
  (mRet (eC (.bl false)))
  sNx)
  (mRet (eAnd (eUn (gIsi .str) (eVar 1)) (eOp (gIn false) (eVar 1) (eC (.tup [.str "R", .str "L", .str "A", .str "S"]))))))))
def B_wrong_run_1 : En → Out := (mSeq (mIf (bOr (bNot (bB (eCall M_is_run (eCons (eVar 3) eNil)))) (bB (eOp gEq (eOp gIx (eVar 3) (eC (.int 0))) (eVar 1))))
  (mRet (eVar 2))
  sNx)
  (mSet 1 (eOp gIx (eVar 3) (eC (.int 0)))))
def M_wrong_run : List D → Res Slot := mBody 4
  (mSeq (mSet 1 (eC .non))
  (mSeq (mFor (iEnumr (eVar 0)) (bOfTup [(bName 2), (bName 3)]) B_wrong_run_1)
  (mRet (eC .non))))
def M_is_sequence : List D → Res Slot := mBody 1
  (mRet (eAnd (eUn (gIsi .list) (eVar 0)) (eOp gIsN (eCall M_wrong_run (eCons (eVar 0) eNil)) (eC .non))))
def M_sequence_in_v2 : List D → Res Slot := mBody 3
  (mSeq (mIf (bB (eOp gEq (eVar 0) (eC (.str "-"))))
  (mRetF (fLst eNil))
  sNx)
  (mSeq (mSet 1 (eAll (mComp [2] (iLst (eM1 gSplit (eVar 0) (eC (.str " ")))) (bName 2) bYes (eCall M_run_in (eCons (eVar 2) eNil)))))
  (mRet (eIf (bB (eCall M_is_sequence (eCons (eVar 1) eNil))) (eVar 1) (eC .non)))))
def M_parse_sequence_v2 : List D → Res Slot := mBody 2
  (mSeq (mSet 1 (eIf (bB (eUn (gIsi .str) (eVar 0))) (eCall M_sequence_in_v2 (eCons (eVar 0) eNil)) (eC .non)))
  (mSeq (mIf (bB (eOp gIsN (eVar 1) (eC .non)))
  (mRaise "InvalidText" (eVar 0))
  sNx)
  (mRet (eVar 1))))
def M_number_in : List D → Res Slot := mBody 7
  (mSeq (mAsg (bOfTup [(bName 2), (bName 3), (bName 4)]) (eM1 gPart (eVar 1) (eC (.str "e"))))
  (mSeq (mSet 5 (eIf (bTruth (eVar 3)) (eCall M_integer_in (eCons (eVar 4) eNil)) (eC (.int 0))))
  (mSeq (mIf (bAnd (bTruth (eVar 3)) (bB (eOp gEq (eVar 5) (eC (.int 0)))))
  (mRet (eC .non))
  sNx)
  (mSeq (mSet 6 (eTup (eCons (eCall M_integer_in (eCons (eVar 2) eNil)) (eCons (eVar 5) eNil))))
  (mRet (eIf (bB (eCall M_is_number (eCons (eVar 0) (eCons (eVar 6) eNil)))) (eVar 6) (eC .non)))))))
def M_parse_number : List D → Res Slot := mBody 3
  (mSeq (mSet 2 (eIf (bB (eUn (gIsi .str) (eVar 1))) (eCall M_number_in (eCons (eVar 0) (eCons (eVar 1) eNil))) (eC .non)))
  (mSeq (mIf (bB (eOp gIsN (eVar 2) (eC .non)))
  (mRaise "InvalidText" (eVar 1))
  sNx)
  (mRet (eVar 2))))
def M_pair_in : List D → Res Slot := mBody 7
  (mSeq (mAsg (bOfTup [(bName 3), (bName 4), (bName 5)]) (eM1 gPart (eVar 1) (eVar 2)))
  (mSeq (mSet 6 (eTup (eCons (eCall M_number_in (eCons (eVar 0) (eCons (eVar 3) eNil))) (eCons (eCall M_integer_in (eCons (eVar 5) eNil)) eNil))))
  (mRet (eIf (bB (eCall M_is_pair (eCons (eVar 0) (eCons (eVar 6) eNil)))) (eVar 6) (eC .non)))))
def M_parse_pair : List D → Res Slot := mBody 4
  (mSeq (mSet 3 (eIf (bB (eUn (gIsi .str) (eVar 1))) (eCall M_pair_in (eCons (eVar 0) (eCons (eVar 1) (eCons (eVar 2) eNil)))) (eC .non)))
  (mSeq (mIf (bB (eOp gIsN (eVar 3) (eC .non)))
  (mRaise "InvalidText" (eVar 1))
  sNx)
  (mRet (eVar 3))))
def M_parse_state : List D → Res Slot := mBody 2
  (mRet (eCall M_parse_pair (eCons (eVar 0) (eCons (eVar 1) (eCons (eC (.str "@")) eNil)))))
def M_parse_effect : List D → Res Slot := mBody 2
  (mRet (eCall M_parse_pair (eCons (eVar 0) (eCons (eVar 1) (eCons (eC (.str ":")) eNil)))))
def M_law_got_v4 : List D → Res Slot := mBody 5
  (mSeq (mSet 3 (eC .non))
  (mSeq (mTry (mSet 3 (eIf (bB (eOp gEq (eVar 0) (eC (.int 3)))) (eCall M_parse_sequence_v2 (eCons (eVar 2) eNil)) (eDoor3 M_parse_number M_parse_state M_parse_effect (eVar 0) (eCons (eVar 1) (eCons (eVar 2) eNil))))) [⟨fun x => x == "InvalidText", 4, (mSet 3 (eAll (fLst (eCons (eC (.str "text")) (eCons (eUn gRepr (mErrFld 4 "InvalidText")) (eCons (mErrIsi 4 "InvalidText" true) (eCons (mErrIsi 4 "InvalidText" false) eNil)))))))⟩])
  (mRet (eVar 3))))
def B_law_runs_1 : En → Out := (mSeq (mSet 4 (eOp gIx (eC (.str "RLAS")) (eOp gMod (eOp gIx (eVar 0) (eOp gMul (eC (.int 2)) (eVar 3))) (eC (.int 4)))))
  (mSeq (mSet 5 (eOp gIx (eAll (fLst (eCons (eC (.int 1)) (eCons (eC (.int 1)) (eCons (eC (.int 2)) (eCons (eC (.int 3)) (eCons (eOp gAdd (eC (.int 1)) (eOp gMod (eOp gIx (eVar 0) (eOp gAdd (eOp gMul (eC (.int 2)) (eVar 3)) (eC (.int 1)))) (eC (.int 12)))) (eCons (eOp gAdd (eOp gMul (eC (.int 420)) (eOp gIx (eVar 0) (eOp gAdd (eOp gMul (eC (.int 2)) (eVar 3)) (eC (.int 1))))) (eC (.int 5))) eNil)))))))) (eOp gMod (eOp gIx (eVar 0) (eOp gAdd (eOp gMul (eC (.int 2)) (eVar 3)) (eC (.int 1)))) (eC (.int 6)))))
  (mSeq (mIf (bB (eOp (gIn false) (eVar 4) (eC (.str "RL"))))
  (mSet 5 (eOp gAdd (eC (.int 1)) (eOp gMod (eVar 5) (eC (.int 4)))))
  sNx)
  (mIf (bOr (bB (eOp gEq (eVarO 2) (eAll (fLst eNil)))) (bB (eOp gNe (eOp gIx (eOp gIx (eVarO 2) (eUn gNeg (eC (.int 1)))) (eC (.int 0))) (eVar 4))))
  (mApp 2 (eTup (eCons (eVar 4) (eCons (eVar 5) eNil))))
  sNx))))
def M_law_runs : List D → Res Slot := mBody 6
  (mSeq (mSetF 2 (fLst eNil))
  (mSeq (mFor (iR1 (eCons (eVar 1) eNil)) (bName 3) B_law_runs_1)
  (mRetO 2)))
def C_law_K49_1 : MD := (eOp gAdd (eVar 15) (eOp gMulS (eUn gStr (eVar 16)) (eUn gInt (eOp gNe (eVar 16) (eC (.int 1))))))
def B_law_K49_1 : En → Out := (mSet 10 (eOp gAdd (eVar 10) (eCall M_law_altered_v4 (eCons (eSl (eVar 3) (pS (eOp gAdd (eC (.int 30)) (eOp gMul (eC (.int 2)) (eVar 11)))) pN) (eCons (eVar 12) eNil)))))
def B_law_K49_2 : En → Out := (mFor (iLst (eAll (fLst (eCons (eVar 6) (eCons (eOp gAdd (eOp gAdd (eVar 6) (eC (.str "@"))) (eVar 7)) (eCons (eOp gAdd (eOp gAdd (eVar 6) (eC (.str ":"))) (eVar 7)) (eCons (eVar 9) eNil))))))) (bName 12) B_law_K49_1)
def B_law_K49_3 : En → Out := (mIf (bB (eOp gNe (eUn gRepr (eCall M_law_got_v4 (eCons (eVar 13) (eCons (eVar 4) (eCons (eVar 12) eNil))))) (eUn gRepr (eCall M_law_want_v6 (eCons (eVar 13) (eCons (eVar 4) (eCons (eVar 12) eNil)))))))
  (mRet (eC (.bl false)))
  sNx)
def B_law_K49_4 : En → Out := (mFor (iR1 (eCons (eC (.int 4)) eNil)) (bName 13) B_law_K49_3)
def C_law_K49_2 : MD := (eCall M_law_got_v4 (eCons (eVar 13) (eCons (eVar 4) (eCons (eVar 14) eNil))))
def B_law_K49_5 : En → Out := (mIf (bB (eOp gNe (eAll (mComp [13] (iR1 (eCons (eC (.int 4)) eNil)) (bName 13) bYes C_law_K49_2)) (eOp gMul (eAll (fLst (eCons (eAll (fLst (eCons (eC (.str "text")) (eCons (eUn gRepr (eVar 14)) (eCons (eC (.bl true)) (eCons (eC (.bl false)) eNil)))))) eNil))) (eC (.int 4)))))
  (mRet (eC (.bl false)))
  sNx)
def B_law_K49_6 : En → Out := (mSeq (mSet 3 (eAll (fCall M_law_numbers (eCons (eVar 2) (eCons (eOp gAdd (eC (.int 4900)) (eVar 1)) (eCons (eOp gMul (eAll (fLst (eCons (eC (.int 420)) eNil))) (eC (.int 60))) eNil))))))
  (mSeq (mSet 4 (eCall M_law_base (eCons (eOp gIx (eVar 3) (eC (.int 0))) eNil)))
  (mSeq (mSet 5 (eCall M_law_number_v2 (eCons (eVar 4) (eCons (eSl (eVar 3) (pS (eC (.int 1))) pN) eNil))))
  (mSeq (mSet 6 (eOp gAdd (eUn gStr (eOp gIx (eVar 5) (eC (.int 0)))) (eOp gMulS (eOp gAdd (eC (.str "e")) (eUn gStr (eOp gIx (eVar 5) (eC (.int 1))))) (eUn gInt (eOp gNe (eOp gIx (eVar 5) (eC (.int 1))) (eC (.int 0)))))))
  (mSeq (mSet 7 (eUn gStr (eOp gIx (eAll (fLst (eCons (eOp gSub (eOp gMod (eOp gIx (eVar 3) (eC (.int 8))) (eC (.int 9))) (eC (.int 4))) (eCons (eOp gAdd (eC (.int 990)) (eOp gMod (eOp gIx (eVar 3) (eC (.int 9))) (eC (.int 20)))) (eCons (eOp gSub (eUn gNeg (eC (.int 990))) (eOp gMod (eOp gIx (eVar 3) (eC (.int 9))) (eC (.int 20)))) eNil))))) (eOp gMod (eOp gIx (eVar 3) (eC (.int 10))) (eC (.int 3))))))
  (mSeq (mSet 8 (eAll (fCall M_law_runs (eCons (eSl (eVar 3) (pS (eC (.int 12))) pN) (eCons (eOp gAdd (eC (.int 1)) (eOp gMod (eOp gIx (eVar 3) (eC (.int 11))) (eC (.int 7)))) eNil)))))
  (mSeq (mSet 9 (eM1 gJoin (eC (.str " ")) (eAll (mComp [15, 16] (iLst (eVar 8)) (bOfTup [(bName 15), (bName 16)]) bYes C_law_K49_1))))
  (mSeq (mSet 10 (eAll (fLst eNil)))
  (mSeq (mFor (iR1 (eCons (eC (.int 2)) eNil)) (bName 11) B_law_K49_2)
  (mSeq (mSet 10 (eOp gAdd (eVar 10) (eAll (fLst (eCons (eC (.str "")) (eCons (eC (.str "-")) (eCons (eC (.str "-0")) (eCons (eC (.str "0e1")) (eCons (eC (.str "00")) (eCons (eC (.str "1e0")) (eCons (eC (.str "1e-0")) (eCons (eC (.str "1e1001")) (eCons (eC (.str "1e-1000")) (eCons (eUn gStr (eVar 4)) (eCons (eOp gAdd (eUn gStr (eVar 4)) (eC (.str "e-3"))) eNil)))))))))))))))
  (mSeq (mSet 10 (eOp gAdd (eVar 10) (eAll (fLst (eCons (eOp gMulN (eC (.str "9")) (eC (.int 300))) (eCons (eOp gMulN (eC (.str "9")) (eC (.int 301))) (eCons (eC (.str "1@")) (eCons (eC (.str "@1")) (eCons (eC (.str "1@1@1")) (eCons (eC (.str "R1")) (eCons (eC (.str "R0")) (eCons (eC (.str "R-2")) (eCons (eC (.str "R02")) (eCons (eC (.str "R R")) (eCons (eC (.str "RL")) (eCons (eC (.str "A 2")) eNil))))))))))))))))
  (mSeq (mSet 10 (eOp gAdd (eVar 10) (eAll (fLst (eCons (eC (.str "e5")) (eCons (eC (.str "1e5e5")) (eCons (eC (.str "R	A")) (eCons (eC (.str "1	@2")) (eCons (eC (.str "R  A")) eNil)))))))))
  (mSeq (mFor (iLst (eVar 10)) (bName 12) B_law_K49_4)
  (mFor (iLst (eAll (fLst (eCons (eC .non) (eCons (eC (.int 5)) (eCons (eAll (fLst (eCons (eC (.str "1")) eNil))) (eCons (eTup (eCons (eC (.str "1")) eNil)) (eCons (eC (.bl true)) (eCons (eAllD fDict0) (eCons (eVar 5) eNil)))))))))) (bName 14) B_law_K49_5))))))))))))))
def M_law_K49 : List D → Res Slot := mBody 17
  (mSeq (mFor (iEnumr (eOp gAdd (eSl (eVar 0) pN (pS (eC (.int 8)))) (eOp gMul (eAll (fLst (eCons (eC (.int 7)) eNil))) (eUn gInt (eOp gEq (eVar 0) (eAll (fLst eNil))))))) (bOfTup [(bName 1), (bName 2)]) B_law_K49_6)
  (mRet (eC (.bl true))))
end
end PM
namespace PM
open PySem L2 GL DL
def isWhole : D → Bool
  | .int _ => true
  | _ => false
theorem is_whole_eq {d : D} (h : noObj d = true) : M_is_whole [d] = .ok (.sh (.bl (isWhole d))) := by
  cases d <;> first | rfl | cases h
def within (lo hi : Int) : D → Bool
  | .int i => decide (lo ≤ i) && decide (i ≤ hi)
  | _ => false
theorem is_within_eq {d : D} (h : noObj d = true) (lo hi : Int) : M_is_within [d, .int lo, .int hi] = .ok (.sh (.bl (within lo hi d))) := by
  have e := is_whole_eq h
  unfold M_is_within
  rw [body_eq]
  cases d <;> simp [e, isWhole, within]
  rename_i i
  by_cases h1 : lo ≤ i <;> simp [h1]
theorem is_place_eq {d : D} (h : noObj d = true) : M_is_place [d] = .ok (.sh (.bl (within (-1000) 1000 d))) := by
  have e := is_within_eq h (-1000) 1000
  unfold M_is_place
  rw [body_eq]
  simp [e]
/-- n digits, each below its size -/
def Digs (z : Int) (n : Nat) (ds : List Int) : Prop := ds.length = n ∧ ∀ d ∈ ds, 0 ≤ d ∧ d < z
theorem Digs.get {z : Int} {n : Nat} {ds : List Int} (h : Digs z n ds) {i : Nat} (hi : i < n) : ∃ d, ds[i]? = some d ∧ 0 ≤ d ∧ d < z := by
  have hl : i < ds.length := by rw [h.1]; exact hi
  exact ⟨ds[i], List.getElem?_eq_getElem hl, h.2 _ (List.getElem_mem hl)⟩
theorem numbers_turn {c salt : D} {sa : Int} (hsa : salt = .int sa) (hs0 : 0 ≤ sa) (hs1 : sa ≤ 100000) {z : Int} (hz0 : 0 < z) (hz1 : z < 2 ^ 30) {sizes : List D} {N L : Int} (hN : 0 ≤ N) (hL : 0 ≤ L) {acc : List D} (hacc : acc.length < 1000) {i : Nat} (hi : i < 1000)
    (ix : gIx (.lst sizes) (.int (i : Int)) = some (.val (.int z))) (x7 : DL.Slot) :
    ∃ L' d x7', 0 ≤ L' ∧ 0 ≤ d ∧ d < z ∧ B_law_numbers_1 [.sh c, .sh salt, .sh (.lst sizes), .sh (.int N), .sh (.int L), .own acc, .sh (.int (i : Int)), x7] =
      .nx [.sh c, .sh salt, .sh (.lst sizes), .sh (.int N), .sh (.int L'), .own (acc ++ [.int d]), .sh (.int (i : Int)), x7'] := by
  subst hsa
  have p18 : gPow (.int 10) (.int 18) = some (.val (.int (10 ^ 18))) := pow_ok (j := 18) (a := 4) (by decide) (by decide)
  have big : acc.length < 1000000 := by omega
  unfold B_law_numbers_1
  by_cases h1 : (1000000000000000000 : Int) ≤ N ∧ 0 < L
  · refine ⟨L / z, L % z, x7, Int.ediv_nonneg hL (by omega), Int.emod_nonneg _ (by omega), Int.emod_lt_of_pos _ hz0, ?_⟩
    have dv : gDiv (.int L) (.int z) = some (.val (.int (L / z))) := div_ok hz0 (lt_pow (by omega) hz1) (by decide) (by decide)
    simp [p18, h1, ix, hz0, big, dv]
  · have m1 : gMul (.int 7919) (.int sa) = some (.val (.int (7919 * sa))) := mul_ok (a := 13) (b := 17) (by decide) (lt_pow hs0 (by omega)) (by decide) (by decide) (by decide)
    generalize hA : N % 2147483629 + 7919 * sa + 1 = A
    have hA0 : 0 ≤ A ∧ A < 2 ^ 32 := by have := Int.emod_nonneg N (show (2147483629 : Int) ≠ 0 by decide); have := Int.emod_lt_of_pos N (show (0 : Int) < 2147483629 by decide); omega
    have p3 : gPow (.int A) (.int 3) = some (.val (.int (A ^ 3))) := pow_ok (j := 3) (a := 32) (lt_pow hA0.1 hA0.2) (by decide)
    have m2 : gMul (.int 104729) (.int ((i : Int) + 1)) = some (.val (.int (104729 * ((i : Int) + 1)))) := mul_ok (a := 17) (b := 11) (by decide) (lt_pow (by omega) (by omega)) (by decide) (by decide) (by decide)
    generalize hB : A ^ 3 % 2147483647 = B
    have hB0 : 0 ≤ B ∧ B < 2147483647 := by rw [← hB]; exact ⟨Int.emod_nonneg _ (by decide), Int.emod_lt_of_pos _ (by decide)⟩
    have m3 : gMul (.int (B + 104729 * ((i : Int) + 1))) (.int ((i : Int) + 3)) = some (.val (.int ((B + 104729 * ((i : Int) + 1)) * ((i : Int) + 3)))) := mul_ok (a := 33) (b := 11) (lt_pow (by omega) (by omega)) (lt_pow (by omega) (by omega)) (by decide) (by decide) (by decide)
    generalize hC : (B + 104729 * ((i : Int) + 1)) * ((i : Int) + 3) % 2147483629 = C
    have hC0 : 0 ≤ C ∧ C < 2147483629 := by rw [← hC]; exact ⟨Int.emod_nonneg _ (by decide), Int.emod_lt_of_pos _ (by decide)⟩
    have p5 : gPow (.int C) (.int 5) = some (.val (.int (C ^ 5))) := pow_ok (j := 5) (a := 31) (lt_pow hC0.1 (by omega)) (by decide)
    generalize hE : C ^ 5 % 2147483647 = E
    have hE0 : 0 ≤ E ∧ E < 2147483647 := by rw [← hE]; exact ⟨Int.emod_nonneg _ (by decide), Int.emod_lt_of_pos _ (by decide)⟩
    have m4 : gMul (.int E) (.int 48271) = some (.val (.int (E * 48271))) := mul_ok (a := 31) (b := 16) (lt_pow (by omega) (by omega)) (by decide) (by decide) (by decide) (by decide)
    generalize hF : E * 48271 % 2147483629 = F
    have hF0 : 0 ≤ F ∧ F < 2147483629 := by rw [← hF]; exact ⟨Int.emod_nonneg _ (by decide), Int.emod_lt_of_pos _ (by decide)⟩
    have d16 : gDiv (.int F) (.int 16) = some (.val (.int (F / 16))) := div_ok (a := 5) (by decide) (by decide) (by decide) (by decide)
    refine ⟨L, F / 16 % z, .sh (.int F), hL, Int.emod_nonneg _ (by omega), Int.emod_lt_of_pos _ hz0, ?_⟩
    have run : ∀ t : Bool, (if t = true then .ok false else .ok false : Res Bool) = .ok false := fun t => by cases t <;> rfl
    by_cases h2 : (1000000000000000000 : Int) ≤ N
    · have h3 : ¬ 0 < L := fun h => h1 ⟨h2, h⟩
      simp [p18, h2, h3, m1, hA, p3, m2, hB, m3, hC, p5, hE, m4, hF, d16, ix, hz0, big]
    · simp [p18, h2, m1, hA, p3, m2, hB, m3, hC, p5, hE, m4, hF, d16, ix, hz0, big]
theorem numbers_ok (cell salt : Int) (hs0 : 0 ≤ salt) (hs1 : salt ≤ 100000) (z : Int) (hz0 : 0 < z) (hz1 : z < 2 ^ 30) (n : Nat) (hn : n ≤ 999) :
    ∃ ds, Digs z n ds ∧ M_law_numbers [.int cell, .int salt, .lst (List.replicate n (.int z))] = .ok (.own (ds.map .int)) := by
  unfold M_law_numbers
  rw [body_eq]
  generalize hN : (if -1 - cell > cell then -1 - cell else cell) = N
  have hN0 : 0 ≤ N := by rw [← hN]; split <;> omega
  obtain ⟨Γ', e1, L, ds, x6, x7, rfl, hL, hd, hp⟩ := forM_inv (g := bName 6) (b := B_law_numbers_1) (fun k Γ => ∃ L ds x6 x7, Γ = [.sh (.int cell), .sh (.int salt), .sh (.lst (List.replicate n (.int z))), .sh (.int N), .sh (.int L), .own (ds.map .int), x6, x7] ∧ 0 ≤ L ∧ ds.length = k ∧ ∀ d ∈ ds, 0 ≤ d ∧ d < z)
    (rangeD 0 n) 0 [.sh (.int cell), .sh (.int salt), .sh (.lst (List.replicate n (.int z))), .sh (.int N), .sh (.int N), .own [], .un, .un] ⟨N, [], .un, .un, rfl, hN0, rfl, fun _ h => nomatch h⟩ (by
      rintro i x Γ hx ⟨L, ds, x6, x7, rfl, hL, hd, hp⟩
      have hi : i < n := by
        have := (List.getElem?_eq_some_iff.mp hx).1
        rwa [rangeD_len] at this
      rw [rangeD_get 0 hi] at hx
      cases hx
      rw [Int.zero_add]
      have ix : gIx (.lst (List.replicate n (.int z))) (.int (i : Int)) = some (.val (.int z)) := by
        rw [gIx_lst, atI_nat (j := i) (v := D.int z) (by simp [hi])]
        rfl
      obtain ⟨L', d, x7', h1, h2, h3, h4⟩ := numbers_turn (c := .int cell) rfl hs0 hs1 hz0 hz1 hN0 hL (acc := ds.map .int) (by simp; omega) (i := i) (by omega) ix x7
      refine ⟨_, _, rfl, .inl h4, L', ds ++ [d], .sh (.int (i : Int)), x7', by simp, h1, by simp; omega, fun y hy => ?_⟩
      rcases List.mem_append.mp hy with hy | hy
      · exact hp y hy
      · rw [List.mem_singleton.mp hy]; exact ⟨h2, h3⟩)
  rw [rangeD_len] at hd
  refine ⟨ds, ⟨by omega, hp⟩, ?_⟩
  have nn : (-1000000 : Int) ≤ n ∧ (n : Int) ≤ 1000000 := by omega
  simp [hN, nn, e1]
end PM
namespace PM
open PySem L2 GL DL
theorem power_turn {b : Int} (hb0 : 0 ≤ b) (hb : b ≤ 36) {c k : Nat} (hc : c < 2 ^ 14) (x3 : DL.Slot) :
    B_power_of_1 [.sh (.int b), .sh (.int c), .sh (.int (b ^ (c / 2 ^ (k + 1)))), .sh (.int (k : Int))] = .nx [.sh (.int b), .sh (.int c), .sh (.int (b ^ (c / 2 ^ k))), .sh (.int (k : Int))] := by
  unfold B_power_of_1
  have st := NM.shift_step c k
  have q1 : c / 2 ^ (k + 1) < 2 ^ 14 := Nat.lt_of_le_of_lt (Nat.div_le_self _ _) hc
  have q2 : 2 * (c / 2 ^ (k + 1)) < 2 ^ 15 := by omega
  have s1 := NM.pow_small hb0 hb (c / 2 ^ (k + 1))
  have s2 := NM.pow_small hb0 hb (2 * (c / 2 ^ (k + 1)))
  have m1 : gMulI (.int (b ^ (c / 2 ^ (k + 1)))) (.int (b ^ (c / 2 ^ (k + 1)))) = some (.val (.int (b ^ (2 * (c / 2 ^ (k + 1)))))) := by
    rw [mulI_ok s1 s1 (by omega) (by omega) (by omega), NM.pow_two_mul]
  have m2 : gMulI (.int (b ^ (2 * (c / 2 ^ (k + 1))))) (.int b) = some (.val (.int (b ^ (2 * (c / 2 ^ (k + 1)) + 1)))) := by
    rw [mulI_ok (b := 6) s2 (lt_pow hb0 (by omega)) (by omega) (by omega) (by omega), Int.pow_succ]
  have sh : gShr (.int (c : Int)) (.int (k : Int)) = some (.val (.int ((c / 2 ^ k : Nat) : Int))) := by
    rw [gShr_int, giv_pos (by omega)]
    rw [Int.natCast_ediv]
    simp
  have an : gAnd (.int ((c / 2 ^ k : Nat) : Int)) (.int 1) = some (.val (.int ((c / 2 ^ k % 2 : Nat) : Int))) := by rw [gAnd_int, PyProof.Rows.bitAnd_m1]; simp
  generalize b ^ (c / 2 ^ (k + 1)) = p1 at m1 ⊢
  rcases Nat.mod_two_eq_zero_or_one (c / 2 ^ k) with ev | odd
  · rw [ev] at an
    rw [st, ev, Nat.add_zero]
    generalize b ^ (2 * (c / 2 ^ (k + 1))) = p2 at m1 ⊢
    generalize ((c / 2 ^ k : Nat) : Int) = s at sh an
    simp [m1, sh, an]
  · rw [odd] at an
    rw [st, odd]
    generalize b ^ (2 * (c / 2 ^ (k + 1)) + 1) = p3 at m2 ⊢
    generalize b ^ (2 * (c / 2 ^ (k + 1))) = p2 at m1 m2 ⊢
    generalize ((c / 2 ^ k : Nat) : Int) = s at sh an
    simp [m1, sh, an, m2]
theorem power_of_eq {b : Int} (hb0 : 0 ≤ b) (hb : b ≤ 36) {c : Nat} (hc : c < 2 ^ 14) : M_power_of [.int b, .int c] = .ok (.sh (.int (b ^ c))) := by
  unfold M_power_of
  rw [body_eq]
  have hbits := NM.lt_bits c
  have hle := NM.bits_le hc
  generalize hn : Builtin.Int.intBits (c : Int) = n at hbits hle
  obtain ⟨Γ', e1, x3, rfl⟩ := forM_inv (g := bName 3) (b := B_power_of_1) (fun i Γ => ∃ x3, Γ = [.sh (.int b), .sh (.int c), .sh (.int (b ^ (c / 2 ^ (n - i)))), x3]) (downD ((n : Int) - 1) n) 0 [.sh (.int b), .sh (.int c), .sh (.int 1), .un]
    ⟨.un, by rw [Nat.sub_zero, Nat.div_eq_of_lt hbits, Int.pow_zero]⟩ (by
      rintro i x Γ hx ⟨x3, rfl⟩
      have hi : i < n := by
        have := (List.getElem?_eq_some_iff.mp hx).1
        rwa [downD_len] at this
      rw [downD_get _ hi] at hx
      cases hx
      have e : (n : Int) - 1 - (i : Int) = ((n - 1 - i : Nat) : Int) := by omega
      rw [e, Nat.zero_add, show n - i = n - 1 - i + 1 by omega, show n - (i + 1) = n - 1 - i by omega]
      exact ⟨_, _, rfl, .inl (power_turn hb0 hb hc x3), _, rfl⟩)
  rw [downD_len, Nat.zero_add, Nat.sub_self] at e1
  have r : rng3 [.int ((n : Int) - 1), .int (-1), .int (-1)] = .ok (downD ((n : Int) - 1) n) := by
    rw [rng3_int, need_pos ⟨rfl, by omega, by omega, by omega, by omega⟩]
    congr 2
    omega
  simp [hn, r, e1]
/-- fewer than three hundred and one digits -/
def few (n : Int) : Bool := decide ((if n < 0 then -n else n) < (10 : Int) ^ 300)
theorem few_eq (n : Int) : M_has_few_digits [.int n] = .ok (.sh (.bl (few n))) := by
  have p : M_power_of [.int 10, .int 300] = .ok (.sh (.int (10 ^ 300))) := power_of_eq (c := 300) (by decide) (by decide) (by decide)
  unfold M_has_few_digits few
  rw [body_eq]
  generalize (10 : Int) ^ 300 = L at p ⊢
  simp [p]
/-- no instance within, and no argument of a law -/
def fair : D → Bool
  | .tup xs => xs.all noObj
  | d => noObj d
def isNum (b : Int) : D → Bool
  | .tup [.int n, .int e] => decide (-1000 ≤ e ∧ e ≤ 1000) && (if n = 0 then decide (e = 0) else decide (n % b ≠ 0) && few n)
  | _ => false
theorem is_number_eq {b : Int} (hb : 0 < b) {d : D} (h : fair d = true) : M_is_number [.int b, d] = .ok (.sh (.bl (isNum b d))) := by
  unfold M_is_number
  rw [body_eq]
  cases d with
  | tup xs =>
    match xs, h with
    | [], _ => simp [isNum]
    | [_], _ => simp [isNum]
    | x :: y :: z :: r, _ =>
      have : ¬ ((r.length : Int) + 1 + 1 + 1 = 2) := by omega
      simp [isNum, this]
    | [x, y], h =>
      have hx : noObj x = true := by unfold fair at h; simp at h; exact h.1
      have hy : noObj y = true := by unfold fair at h; simp at h; exact h.2
      have e1 := is_whole_eq hx
      have e2 := is_place_eq hy
      cases x with
      | int n =>
        cases y with
        | int e =>
          have e3 := few_eq n
          by_cases h0 : n = 0
          · subst h0
            by_cases h1 : -1000 ≤ e <;> by_cases h2 : e ≤ 1000 <;> simp [isNum, e1, e2, isWhole, within, h1, h2]
            rw [Bool.eq_iff_iff]; simp
          · by_cases h3 : n % b = 0 <;> by_cases h1 : -1000 ≤ e <;> by_cases h2 : e ≤ 1000 <;> simp [isNum, e1, e2, isWhole, within, h1, h2, h0, hb, e3, h3]
        | _ => simp [isNum, e1, e2, isWhole, within]
      | _ => simp [isNum, e1, isWhole]
  | obj C ns xs => cases h
  | _ => simp [isNum]
theorem isNum_pair {b : Int} {d : D} (h : isNum b d = true) : ∃ n e, d = .tup [.int n, .int e] ∧ -1000 ≤ e ∧ e ≤ 1000 ∧ few n = true := by
  unfold isNum at h
  split at h
  · rename_i n e
    rw [Bool.and_eq_true] at h
    obtain ⟨h1, h2⟩ := h
    have h1 := of_decide_eq_true h1
    refine ⟨n, e, rfl, h1.1, h1.2, ?_⟩
    split at h2
    · rename_i h0; subst h0; unfold few; exact decide_eq_true (by decide +kernel)
    · rw [Bool.and_eq_true] at h2; exact h2.2
  · cases h
/-- a tuple of a number and a place -/
def isPair (b : Int) : D → Bool
  | .tup [x, y] => isNum b x && within (-1000) 1000 y
  | _ => false
/-- fair, and its items fair -/
def fair2 : D → Bool
  | .tup xs => xs.all fair
  | d => noObj d
theorem fair_noObj {d : D} (h : fair d = true) : noObj d = true := by cases d <;> first | rfl | exact h
theorem is_pair_eq {b : Int} (hb : 0 < b) {d : D} (h : fair2 d = true) : M_is_pair [.int b, d] = .ok (.sh (.bl (isPair b d))) := by
  unfold M_is_pair
  rw [body_eq]
  cases d with
  | tup xs =>
    match xs, h with
    | [], _ => simp [isPair]
    | [_], _ => simp [isPair]
    | x :: y :: z :: r, _ =>
      have : ¬ ((r.length : Int) + 1 + 1 + 1 = 2) := by omega
      simp [isPair, this]
    | [x, y], h =>
      have hx : fair x = true := by unfold fair2 at h; simp at h; exact h.1
      have hy : fair y = true := by unfold fair2 at h; simp at h; exact h.2
      have e1 := is_number_eq hb hx
      have e2 := is_place_eq (fair_noObj hy)
      cases h1 : isNum b x <;> simp [isPair, e1, e2, h1]
  | obj C ns xs => cases h
  | _ => simp [isPair]
end PM
namespace PM
open PySem L2 GL DL
theorem sIx_nat (n k d : Nat) (h : k ≤ n) : HT.sIx n d (some (k : Int)) = k := by
  rw [HT.sIx_nat]
  omega
theorem sl_from (xs : List D) (k : Nat) (h : k ≤ xs.length) : gSl (some (k : Int)) none (.lst xs) = some (.newL (xs.drop k)) := by
  show some (Giv.newL (cutL xs (some (k : Int)) none)) = _
  unfold cutL
  rw [sIx_nat _ _ _ h]
  rw [show HT.sIx xs.length xs.length none = xs.length from rfl, List.take_of_length_le (by simp)]
theorem rep_one (x : D) : ∀ n, repD n [x] = List.replicate n x
  | 0 => rfl
  | n + 1 => by
    show [x] ++ repD n [x] = _
    rw [rep_one x n]; rfl
theorem mul_rep (x : D) (n : Nat) (h : n ≤ 1000000) : gMul (.lst [x]) (.int (n : Int)) = some (.newL (List.replicate n x)) := by
  show (if -1000000 ≤ (n : Int) ∧ (n : Int) ≤ 1000000 ∧ [x].length * (n : Int).toNat ≤ 1000000 then some (Giv.newL (repD (n : Int).toNat [x])) else none) = _
  rw [if_pos ⟨by omega, by omega, by simp; omega⟩, Int.toNat_natCast, rep_one]
theorem Digs.drop {z : Int} {n : Nat} {ds : List Int} (h : Digs z n ds) (k : Nat) : Digs z (n - k) (ds.drop k) := ⟨by rw [List.length_drop, h.1], fun d hd => h.2 d (List.mem_of_mem_drop hd)⟩
theorem Digs.take {z : Int} {n : Nat} {ds : List Int} (h : Digs z n ds) {k : Nat} (hk : k ≤ n) : Digs z k (ds.take k) := ⟨by rw [List.length_take, h.1]; omega, fun d hd => h.2 d (List.mem_of_mem_take hd)⟩
theorem Digs.ix {z : Int} {n : Nat} {ds : List Int} (h : Digs z n ds) {i : Nat} (hi : i < n) : ∃ d, gIx (.lst (ds.map .int)) (.int (i : Int)) = some (.val (.int d)) ∧ 0 ≤ d ∧ d < z := by
  obtain ⟨d, e, h0, h1⟩ := h.get hi
  refine ⟨d, ?_, h0, h1⟩
  rw [gIx_lst, atI_nat (j := i) (v := D.int d) (by rw [List.getElem?_map, e]; rfl)]
  rfl
theorem cat_lst {xs ys : List D} (h : xs.length + ys.length ≤ 1000000) : gAdd (.lst xs) (.lst ys) = some (.newL (xs ++ ys)) := if_pos h
theorem lay_ints : ∀ ns : List Int, PyData.canLayAll0 (ns.map .int) = true
  | [] => by simp only [List.map_nil, PyData.canLayAll0]
  | n :: r => by simp only [List.map_cons, PyData.canLayAll0, PyData.canLay0, lay_ints r, Bool.and_self]
theorem depth_ints : ∀ ns : List Int, PyData.depthAll (ns.map .int) ≤ 1
  | [] => by simp only [List.map_nil, PyData.depthAll]; omega
  | n :: r => by
    have h := depth_ints r
    simp only [List.map_cons, PyData.depthAll, PyData.depth]
    omega
theorem eqOk_scr (ns : List Int) : eqOk (.scr ns) = true := by
  unfold eqOk
  have e1 : DL.plain (.scr ns) = true := by unfold DL.plain; rfl
  have e2 : py (.scr ns) = .list (ns.map .int) := by unfold py; rfl
  rw [e1, e2]
  unfold SeqAt.shaped
  have h1 := lay_ints ns
  have h2 := depth_ints ns
  have e3 : (PyData.list (ns.map .int)).canLay0 = true := by simpa only [PyData.canLay0] using h1
  have e4 : (PyData.list (ns.map .int)).depth ≤ 64 := by simp only [PyData.depth]; omega
  rw [e3, decide_eq_true e4]
  rfl
theorem eqOk_nil : eqOk (.lst []) = true := by decide +kernel
theorem scr_nil (ns : List Int) : gEq (.scr ns) (.lst []) = some (.val (.bl ns.isEmpty)) := by
  show gEqD (.scr ns) (.lst []) = _
  unfold gEqD
  rw [giv_pos ⟨eqOk_scr ns, eqOk_nil⟩]
  have e2 : py (.scr ns) = .list (ns.map .int) := by unfold py; rfl
  have e3 : py (.lst []) = .list [] := by unfold py pyAll; rfl
  rw [e2, e3]
  cases ns with
  | nil => simp only [List.map_nil, PyData.eqv, PyData.eqvAll, List.isEmpty]
  | cons a r => simp only [List.map_cons, PyData.eqv, PyData.eqvAll, List.isEmpty]
/-- the cells that a law walks -/
theorem cells_eq (ns : List Int) (hn : ns.length ≤ 63) (c : Nat) : ∃ cs : List Int, cs.length ≤ 1000 ∧ ∃ xs, gSl none (some (c : Int)) (.scr ns) = some (.newL xs) ∧ ∃ k : Int, gInt (.bl ns.isEmpty) = some (.val (.int k)) ∧ ∃ ys, gMul (.lst [.int 7]) (.int k) = some (.newL ys) ∧ gAdd (.lst xs) (.lst ys) = some (.newL (cs.map .int)) := by
  refine ⟨cutL ns none (some (c : Int)) ++ List.replicate (if ns.isEmpty then 1 else 0) 7, ?_, (cutL ns none (some (c : Int))).map .int, ?_, (if ns.isEmpty then 1 else 0 : Nat), ?_, _, mul_rep (.int 7) _ (by split <;> decide), ?_⟩
  · have : (cutL ns none (some (c : Int))).length ≤ ns.length := by
      unfold cutL
      rw [List.length_take, List.length_drop]
      omega
    rw [List.length_append, List.length_replicate]
    split <;> omega
  · show some (Giv.newL (cutL (ns.map .int) none (some (c : Int)))) = _
    unfold cutL
    rw [List.length_map, List.map_take, List.map_drop]
  · cases ns <;> rfl
  · rw [cat_lst, List.map_append, List.map_replicate]
    have : (cutL ns none (some (c : Int))).length ≤ ns.length := by
      unfold cutL
      rw [List.length_take, List.length_drop]
      omega
    rw [List.length_map, List.length_replicate]
    split <;> omega
end PM
namespace PM
open PySem L2 GL DL
/-- n' and e' are the form of n * b ^ e -/
def IsForm (b n e n' e' : Int) : Prop := (n = 0 ∧ n' = 0 ∧ e' = 0) ∨ (n ≠ 0 ∧ ∃ f : Nat, n = n' * b ^ f ∧ n' % b ≠ 0 ∧ e' = e + f)
theorem IsForm.one {b n e n1 e1 n2 e2 : Int} (hb : 2 ≤ b) (h : IsForm b n e n1 e1) (g : IsForm b n e n2 e2) : n1 = n2 ∧ e1 = e2 := by
  rcases h with ⟨h0, rfl, rfl⟩ | ⟨h0, f, h1, h2, rfl⟩
  · rcases g with ⟨_, rfl, rfl⟩ | ⟨g0, _⟩
    · exact ⟨rfl, rfl⟩
    · exact absurd h0 g0
  · rcases g with ⟨g0, _⟩ | ⟨_, f2, g1, g2, rfl⟩
    · exact absurd g0 h0
    · obtain ⟨e1, e2⟩ := NM.one_form hb h1 h2 g1 g2
      subst e2
      exact ⟨e1, rfl⟩
theorem IsForm.small {b n e n' e' : Int} (hb : 2 ≤ b) (h : IsForm b n e n' e') : n'.natAbs ≤ n.natAbs := by
  rcases h with ⟨_, rfl, _⟩ | ⟨_, f, h1, _, _⟩
  · simp
  · rw [h1, Int.natAbs_mul]
    exact Nat.le_mul_of_pos_right _ (by have := NM.pow_pos hb f; omega)
theorem form_eq {b : Int} (hb : 2 ≤ b) (hb2 : b ≤ 36) {n e : Int} {m : Nat} (hm : n.natAbs < 2 ^ m) (hm2 : m ≤ 900000) :
    ∃ n' e', IsForm b n e n' e' ∧ M_law_form [.int b, .int n, .int e] = .ok (.sh (.tup [.int n', .int e'])) := by
  unfold M_law_form
  rw [body_eq]
  obtain ⟨Γ', m', h1, ⟨n', e', f, rfl, hn, he, hn', hm'⟩, h3⟩ := whileM_inv (t := T_law_form_1) (b := B_law_form_1) (fun m' Γ => ∃ n' e', ∃ f : Nat, Γ = [.sh (.int b), .sh (.int n'), .sh (.int e')] ∧ n = n' * b ^ f ∧ e' = e + f ∧ n'.natAbs < 2 ^ m' ∧ m' ≤ m) (by
    rintro k Γ ⟨n', e', f, rfl, hn, he, hk, hkm⟩
    by_cases h0 : n' = 0
    · left; unfold T_law_form_1; simp [h0]
    · by_cases hd : n' % b = 0
      · right
        have dv : gDiv (.int n') (.int b) = some (.val (.int (n' / b))) := div_ok (a := 6) (by omega) (lt_pow (by omega) (by omega)) (by decide) (by decide)
        have e1 : b * (n' / b) = n' := by have := Int.mul_ediv_add_emod n' b; omega
        have e2 : b.natAbs * (n' / b).natAbs = n'.natAbs := by rw [← Int.natAbs_mul, e1]
        have e3 : 2 * (n' / b).natAbs ≤ n'.natAbs := by rw [← e2]; exact Nat.mul_le_mul_right _ (by omega)
        have hk0 : 0 < k := Nat.pos_of_ne_zero fun hk0 => by subst hk0; simp at hk; exact h0 hk
        obtain ⟨j, rfl⟩ : ∃ j, k = j + 1 := ⟨k - 1, by omega⟩
        rw [Nat.pow_succ] at hk
        have hz : n = n' / b * b ^ (f + 1) := by rw [hn, Int.pow_succ, Int.mul_comm (b ^ f) b, ← Int.mul_assoc, Int.mul_comm (n' / b) b, e1]
        refine ⟨by unfold T_law_form_1; simp [h0, hd, show 0 < b by omega], _, j, .inl ?_, by omega, n' / b, e' + 1, f + 1, rfl, hz, by omega, by omega, by omega⟩
        unfold B_law_form_1
        simp [dv]
      · left; unfold T_law_form_1; simp [h0, hd, show 0 < b by omega])
    1000000 m [.sh (.int b), .sh (.int n), .sh (.int e)] ⟨n, e, 0, rfl, by simp, by simp, hm, Nat.le_refl _⟩ (by omega)
  by_cases h0 : n' = 0
  · refine ⟨0, 0, .inl ⟨by rw [hn, h0]; simp, rfl, rfl⟩, ?_⟩
    simp [h1, h0]
  · have hnb : n' % b ≠ 0 := by
      intro hz
      unfold T_law_form_1 at h3
      simp [h0, hz, show 0 < b by omega] at h3
    refine ⟨n', e', .inr ⟨fun z => ?_, f, hn, hnb, he⟩, ?_⟩
    · rw [z] at hn
      have := NM.pow_pos hb f
      rcases Int.mul_eq_zero.mp hn.symm with h | h
      · exact h0 h
      · omega
    · simp [h1, h0]
end PM
namespace NR
/-- the worth of a place -/
def W (b e : Int) : Rat := (b : Rat) ^ e
section
variable {b : Int} (hb : 2 ≤ b)
include hb
theorem cast_ne : (b : Rat) ≠ 0 := fun h => by
  have : b = 0 := by exact_mod_cast h
  omega
theorem W_add (i j : Int) : W b (i + j) = W b i * W b j := Rat.zpow_add (cast_ne hb) i j
theorem W_pos (e : Int) : 0 < W b e := Rat.zpow_pos (by exact_mod_cast (show (0 : Int) < b by omega))
theorem W_ne (e : Int) : W b e ≠ 0 := Rat.ne_of_gt (W_pos hb e)
end
theorem W_zero (b : Int) : W b 0 = 1 := Rat.zpow_zero _
theorem W_nat (b : Int) (n : Nat) : W b n = ((b ^ n : Int) : Rat) := by
  unfold W
  rw [Rat.zpow_natCast]
  simp
theorem W_one (b : Int) : W b 1 = b := by
  have := W_nat b 1
  simpa using this
theorem W_toNat (b : Int) {e : Int} (h : 0 ≤ e) : W b e = ((b ^ e.toNat : Int) : Rat) := by
  rw [← W_nat, Int.toNat_of_nonneg h]
/-- n and e are the form of the value v -/
def Is (b : Int) (v : Rat) (n e : Int) : Prop := v = n * W b e ∧ (n % b ≠ 0 ∨ (n = 0 ∧ e = 0))
theorem mul_W_eq {b : Int} (hb : 2 ≤ b) {n m e f : Int} (h : (n : Rat) * W b e = m * W b f) (hf : f ≤ e) : m = n * b ^ (e - f).toNat := by
  have h1 : W b e = W b (e - f) * W b f := by rw [← W_add hb]; congr 1; omega
  rw [h1, W_toNat b (by omega), ← Rat.mul_assoc] at h
  have h3 := W_ne hb f
  have h2 : (n : Rat) * ((b ^ (e - f).toNat : Int) : Rat) = m := by
    generalize (n : Rat) * ((b ^ (e - f).toNat : Int) : Rat) = x at h ⊢
    generalize W b f = w at h h3
    grind
  exact_mod_cast h2.symm
theorem Is.one {b : Int} (hb : 2 ≤ b) {v : Rat} {n e m f : Int} (h : Is b v n e) (g : Is b v m f) : n = m ∧ e = f := by
  obtain ⟨h1, h2⟩ := h
  obtain ⟨g1, g2⟩ := g
  have key : ∀ {n e m f : Int}, (n : Rat) * W b e = m * W b f → f ≤ e → (n % b ≠ 0 ∨ (n = 0 ∧ e = 0)) → (m % b ≠ 0 ∨ (m = 0 ∧ f = 0)) → n = m ∧ e = f := by
    intro n e m f q hf hn hm
    have e1 := mul_W_eq hb q hf
    by_cases hz : n = 0
    · subst hz
      rw [Int.zero_mul] at e1
      subst e1
      rcases hn with hn | hn
      · simp at hn
      · rcases hm with hm | hm
        · simp at hm
        · exact ⟨rfl, by omega⟩
    · by_cases hd : e = f
      · subst hd
        rw [Int.sub_self] at e1
        simp at e1
        exact ⟨e1.symm, rfl⟩
      · exfalso
        obtain ⟨k, hk⟩ : ∃ k, (e - f).toNat = k + 1 := ⟨(e - f).toNat - 1, by omega⟩
        rw [hk, Int.pow_succ, ← Int.mul_assoc] at e1
        rcases hm with hm | ⟨hm, _⟩
        · exact hm (by rw [e1]; exact Int.mul_emod_left _ _)
        · rw [hm] at e1
          have hp : 0 < b ^ k := Int.pow_pos (by omega)
          rcases Int.mul_eq_zero.mp e1.symm with h | h
          · rcases Int.mul_eq_zero.mp h with h | h
            · exact hz h
            · omega
          · omega
  have q := h1.symm.trans g1
  rcases Int.le_total f e with l | l
  · exact key q l h2 g2
  · obtain ⟨a, c⟩ := key q.symm l g2 h2
    exact ⟨a.symm, c.symm⟩
open Classical in
noncomputable def pick (b : Int) (v : Rat) : Int × Int := if h : ∃ p : Int × Int, Is b v p.1 p.2 then choose h else (0, 0)
/-- the numerator and the exponent of a value -/
noncomputable def nm (b : Int) (v : Rat) : Int := (pick b v).1
noncomputable def ex (b : Int) (v : Rat) : Int := (pick b v).2
theorem pick_of {b : Int} {v : Rat} {n e : Int} (h : Is b v n e) : Is b v (nm b v) (ex b v) := by
  unfold nm ex pick
  rw [dif_pos ⟨(n, e), h⟩]
  exact Classical.choose_spec (p := fun p : Int × Int => Is b v p.1 p.2) ⟨(n, e), h⟩
theorem Is.eq {b : Int} (hb : 2 ≤ b) {v : Rat} {n e : Int} (h : Is b v n e) : n = nm b v ∧ e = ex b v := h.one hb (pick_of h)
/-- a value that has a form -/
def Dy (b : Int) (v : Rat) : Prop := ∃ n e : Int, v = n * W b e
theorem has_form {b : Int} (hb : 2 ≤ b) : ∀ (k : Nat) (n e : Int), n.natAbs ≤ k → ∃ m f, Is b (n * W b e) m f ∧ m.natAbs ≤ n.natAbs ∧ (n ≠ 0 → e ≤ f)
  | 0, n, e, h => by
    obtain rfl : n = 0 := by omega
    exact ⟨0, 0, ⟨by rw [show ((0 : Int) : Rat) = 0 from rfl, Rat.zero_mul, Rat.zero_mul], .inr ⟨rfl, rfl⟩⟩, Nat.le_refl _, fun h => absurd rfl h⟩
  | k + 1, n, e, h => by
    by_cases h0 : n = 0
    · subst h0
      exact ⟨0, 0, ⟨by rw [show ((0 : Int) : Rat) = 0 from rfl, Rat.zero_mul, Rat.zero_mul], .inr ⟨rfl, rfl⟩⟩, Nat.le_refl _, fun h => absurd rfl h⟩
    by_cases hd : n % b = 0
    · have e1 : b * (n / b) = n := by have := Int.mul_ediv_add_emod n b; omega
      have e2 : b.natAbs * (n / b).natAbs = n.natAbs := by rw [← Int.natAbs_mul, e1]
      have e3 : 2 * (n / b).natAbs ≤ n.natAbs := by rw [← e2]; exact Nat.mul_le_mul_right _ (by omega)
      obtain ⟨m, f, h1, h2, h3⟩ := has_form hb k (n / b) (e + 1) (by omega)
      refine ⟨m, f, ?_, by omega, fun _ => ?_⟩
      · have : (n : Rat) * W b e = ((n / b : Int) : Rat) * W b (e + 1) := by
          rw [W_add hb, W_one]
          have e4 : (n : Rat) = (b : Rat) * ((n / b : Int) : Rat) := by exact_mod_cast e1.symm
          rw [e4]
          generalize ((n / b : Int) : Rat) = q
          generalize W b e = w
          grind
        rw [this]; exact h1
      · have : n / b ≠ 0 := fun z => by rw [z] at e1; omega
        have := h3 this
        omega
    · exact ⟨n, e, ⟨rfl, .inl hd⟩, Nat.le_refl _, fun _ => Int.le_refl _⟩
section
variable {b : Int} (hb : 2 ≤ b)
include hb
theorem Dy.is {v : Rat} (h : Dy b v) : Is b v (nm b v) (ex b v) := by
  obtain ⟨n, e, rfl⟩ := h
  obtain ⟨m, f, h1, _⟩ := has_form hb n.natAbs n e (Nat.le_refl _)
  exact pick_of h1
theorem Dy.eq {v : Rat} (h : Dy b v) : (nm b v : Rat) * W b (ex b v) = v := ((h.is hb).1).symm
theorem nm_le {n e : Int} : (nm b (n * W b e)).natAbs ≤ n.natAbs := by
  obtain ⟨m, f, h1, h2, _⟩ := has_form hb n.natAbs n e (Nat.le_refl _)
  rw [← (h1.eq hb).1]; exact h2
theorem ex_ge {n e : Int} (h0 : n ≠ 0) : e ≤ ex b (n * W b e) := by
  obtain ⟨m, f, h1, _, h3⟩ := has_form hb n.natAbs n e (Nat.le_refl _)
  rw [← (h1.eq hb).2]; exact h3 h0
theorem ex_zero : ex b 0 = 0 := by
  have h : Is b 0 0 0 := ⟨by rw [show ((0 : Int) : Rat) = 0 from rfl, Rat.zero_mul], .inr ⟨rfl, rfl⟩⟩
  exact (h.eq hb).2.symm
theorem Dy.add {v w : Rat} (h : Dy b v) (g : Dy b w) : Dy b (v + w) := by
  obtain ⟨n, e, rfl⟩ := h
  obtain ⟨m, f, rfl⟩ := g
  have key : ∀ lo, lo ≤ e → lo ≤ f → (n : Rat) * W b e + m * W b f = ((n * b ^ (e - lo).toNat + m * b ^ (f - lo).toNat : Int) : Rat) * W b lo := by
    intro lo h1 h2
    rw [show W b e = W b (e - lo) * W b lo by rw [← W_add hb]; congr 1; omega, show W b f = W b (f - lo) * W b lo by rw [← W_add hb]; congr 1; omega, W_toNat b (show 0 ≤ e - lo by omega), W_toNat b (show 0 ≤ f - lo by omega)]
    rw [Rat.intCast_add, Rat.intCast_mul, Rat.intCast_mul]
    grind
  exact ⟨_, _, key (min e f) (Int.min_le_left _ _) (Int.min_le_right _ _)⟩
theorem Dy.int (n : Int) : Dy b n := ⟨n, 0, by rw [W_zero, Rat.mul_one]⟩
theorem Dy.w (e : Int) : Dy b (W b e) := ⟨1, e, by rw [show ((1 : Int) : Rat) = 1 from rfl, Rat.one_mul]⟩
theorem Dy.neg {v : Rat} (h : Dy b v) : Dy b (-v) := by
  obtain ⟨n, e, rfl⟩ := h
  exact ⟨-n, e, by rw [Rat.intCast_neg]; grind⟩
theorem Dy.sub {v w : Rat} (h : Dy b v) (g : Dy b w) : Dy b (v - w) := by
  rw [Rat.sub_eq_add_neg]; exact h.add hb (g.neg hb)
end
end NR
namespace PM
open PySem L2 GL DL NR
/-- the data of a value -/
noncomputable def numD (b : Int) (v : Rat) : D := .tup [.int (nm b v), .int (ex b v)]
theorem IsForm.is {b n e n' e' : Int} (hb : 2 ≤ b) (h : IsForm b n e n' e') : Is b (n * W b e) n' e' := by
  rcases h with ⟨rfl, rfl, rfl⟩ | ⟨h0, f, h1, h2, rfl⟩
  · exact ⟨by rw [show ((0 : Int) : Rat) = 0 from rfl, Rat.zero_mul, Rat.zero_mul], .inr ⟨rfl, rfl⟩⟩
  · refine ⟨?_, .inl h2⟩
    rw [W_add hb, W_nat, h1, Rat.intCast_mul]
    grind
theorem IsForm.num {b n e n' e' : Int} (hb : 2 ≤ b) (h : IsForm b n e n' e') : n' = nm b (n * W b e) ∧ e' = ex b (n * W b e) := (h.is hb).eq hb
theorem law_form_val {b : Int} (hb : 2 ≤ b) (hb2 : b ≤ 36) {n : Int} (e : Int) {m : Nat} (hm : n.natAbs < 2 ^ m) (hm2 : m ≤ 900000) : M_law_form [.int b, .int n, .int e] = .ok (.sh (numD b (n * W b e))) := by
  obtain ⟨n', e', h1, h2⟩ := form_eq hb hb2 (e := e) hm hm2
  obtain ⟨rfl, rfl⟩ := h1.num hb
  exact h2
end PM
namespace PM
open PySem L2 GL DL NR
theorem pow36 {b : Int} (hb0 : 0 ≤ b) (hb : b ≤ 36) (c : Nat) : (b ^ c).natAbs ≤ 36 ^ c := by
  rw [NM.natAbs_pow]
  exact Nat.pow_le_pow_left (by omega) c
theorem pow36_lt (c : Nat) : 36 ^ c ≤ 2 ^ (6 * c) := by
  rw [show 2 ^ (6 * c) = (2 ^ 6) ^ c from Nat.pow_mul 2 6 c]
  exact Nat.pow_le_pow_left (by decide) c
end PM
namespace DL
open PySem L2 PySem.Spec PyProof.Rows GL
/-- i has at most a bits -/
class Bd (i : Int) (a : outParam Nat) : Prop where
  lt : i.natAbs < 2 ^ a
theorem two_add {a b : Nat} : 2 ^ a + 2 ^ b ≤ 2 ^ (a + b + 1) := by
  have h1 : 2 ^ a ≤ 2 ^ (a + b) := Nat.pow_le_pow_right (by decide) (by omega)
  have h2 : 2 ^ b ≤ 2 ^ (a + b) := Nat.pow_le_pow_right (by decide) (by omega)
  rw [Nat.pow_succ]; omega
section
variable {i j : Int} {a b : Nat}
instance Bd.mul [h : Bd i a] [g : Bd j b] : Bd (i * j) (a + b) := ⟨by rw [Int.natAbs_mul, Nat.pow_add]; exact Nat.mul_lt_mul'' h.lt g.lt⟩
instance Bd.add [h : Bd i a] [g : Bd j b] : Bd (i + j) (a + b + 1) := ⟨by have := two_add (a := a) (b := b); have := h.lt; have := g.lt; have := Int.natAbs_add_le i j; omega⟩
instance Bd.sub [h : Bd i a] [g : Bd j b] : Bd (i - j) (a + b + 1) := ⟨by have := two_add (a := a) (b := b); have := h.lt; have := g.lt; have := Int.natAbs_sub_le i j; omega⟩
instance Bd.neg [h : Bd i a] : Bd (-i) a := ⟨by rw [Int.natAbs_neg]; exact h.lt⟩
instance Bd.lit {n : Nat} : Bd (OfNat.ofNat n : Int) (n.log2 + 1) := ⟨by
  show (n : Int).natAbs < _
  rw [Int.natAbs_natCast]
  exact Nat.lt_log2_self⟩
instance Bd.modLit {n : Nat} [NeZero n] : Bd (i % (OfNat.ofNat n : Int)) (n.log2 + 1) := ⟨by
  have h0 : n ≠ 0 := NeZero.ne n
  have h1 := Int.emod_nonneg i (show (n : Int) ≠ 0 by omega)
  have h2 := Int.emod_lt_of_pos i (show (0 : Int) < n by omega)
  have h3 : n < 2 ^ (n.log2 + 1) := Nat.lt_log2_self
  show (i % (n : Int)).natAbs < _
  omega⟩
instance (priority := low) Bd.mod [h : Bd i a] [g : Bd j b] : Bd (i % j) (a + b) := ⟨by
  by_cases h0 : j = 0
  · subst h0
    rw [Int.emod_zero]
    exact Nat.lt_of_lt_of_le h.lt (Nat.pow_le_pow_right (by decide) (by omega))
  · have h1 := Int.emod_nonneg i h0
    have h2 := Int.emod_lt i h0
    have h3 : 2 ^ b ≤ 2 ^ (a + b) := Nat.pow_le_pow_right (by decide) (by omega)
    have := g.lt
    omega⟩
instance Bd.div [h : Bd i a] : Bd (i / j) a := ⟨Nat.lt_of_le_of_lt (Int.natAbs_ediv_le_natAbs i j) h.lt⟩
instance Bd.pow {n : Nat} [h : Bd i a] : Bd (i ^ n) (a * n + 1) := ⟨by
  rw [NM.natAbs_pow]
  have h1 : i.natAbs ^ n ≤ (2 ^ a) ^ n := Nat.pow_le_pow_left (Nat.le_of_lt h.lt) n
  rw [← Nat.pow_mul] at h1
  exact Nat.lt_of_le_of_lt h1 (Nat.pow_lt_pow_right (by decide) (by omega))⟩
instance Bd.ite {c : Prop} [Decidable c] [h : Bd i a] [g : Bd j b] : Bd (if c then i else j) (a + b) := ⟨by
  have h1 : 2 ^ a ≤ 2 ^ (a + b) := Nat.pow_le_pow_right (by decide) (by omega)
  have h2 : 2 ^ b ≤ 2 ^ (a + b) := Nat.pow_le_pow_right (by decide) (by omega)
  have := h.lt
  have := g.lt
  split <;> omega⟩
end
end DL
namespace NR
/-- v is an integer below 2 ^ A, times the worth of lo -/
def Sz (b : Int) (v : Rat) (A : Nat) (lo : Int) : Prop := ∃ n : Int, v = n * W b lo ∧ n.natAbs < 2 ^ A
section
variable {b : Int} (hb : 2 ≤ b) {v w : Rat} {A B : Nat} {lo : Int}
theorem Sz.dy (h : Sz b v A lo) : Dy b v := by obtain ⟨n, e, _⟩ := h; exact ⟨n, lo, e⟩
theorem Sz.mono (h : Sz b v A lo) (l : A ≤ B) : Sz b v B lo := by
  obtain ⟨n, e, s⟩ := h
  exact ⟨n, e, Nat.lt_of_lt_of_le s (Nat.pow_le_pow_right (by decide) l)⟩
theorem Sz.add (h : Sz b v A lo) (g : Sz b w A lo) : Sz b (v + w) (A + 1) lo := by
  obtain ⟨n, rfl, s⟩ := h
  obtain ⟨m, rfl, t⟩ := g
  refine ⟨n + m, by rw [Rat.intCast_add]; grind, ?_⟩
  have := Int.natAbs_add_le n m
  rw [Nat.pow_succ]; omega
theorem Sz.neg (h : Sz b v A lo) : Sz b (-v) A lo := by
  obtain ⟨n, rfl, s⟩ := h
  exact ⟨-n, by rw [Rat.intCast_neg]; grind, by rw [Int.natAbs_neg]; exact s⟩
theorem Sz.sub (h : Sz b v A lo) (g : Sz b w A lo) : Sz b (v - w) (A + 1) lo := by
  rw [Rat.sub_eq_add_neg]; exact h.add g.neg
theorem Sz.of {n e : Int} (h : n.natAbs < 2 ^ A) : Sz b (n * W b e) A e := ⟨n, rfl, h⟩
theorem Sz.int {n : Int} (h : n.natAbs < 2 ^ A) : Sz b n A 0 := ⟨n, by rw [W_zero, Rat.mul_one], h⟩
include hb
theorem Sz.nm (h : Sz b v A lo) : (nm b v).natAbs < 2 ^ A := by
  obtain ⟨n, rfl, s⟩ := h
  exact Nat.lt_of_le_of_lt (nm_le hb) s
theorem nm_ne (h : Dy b v) (h0 : v ≠ 0) : NR.nm b v ≠ 0 := fun z => by
  have := h.eq hb
  rw [z] at this
  apply h0
  rw [← this, show ((0 : Int) : Rat) = 0 from rfl, Rat.zero_mul]
theorem nm_eq0 (h : Dy b v) (h0 : NR.nm b v = 0) : v = 0 := Classical.byContradiction fun z => nm_ne hb h z h0
theorem Sz.ex_lo (h : Sz b v A lo) (h0 : v ≠ 0) : lo ≤ ex b v := by
  obtain ⟨n, rfl, s⟩ := h
  refine ex_ge hb fun z => h0 ?_
  rw [z, show ((0 : Int) : Rat) = 0 from rfl, Rat.zero_mul]
theorem Sz.ex_hi (h : Sz b v A lo) (h0 : v ≠ 0) : ex b v < lo + A := by
  have h1 := h.ex_lo hb h0
  have h2 := h.dy.eq hb
  have h3 := nm_ne hb h.dy h0
  obtain ⟨n, e, s⟩ := h
  have h4 := mul_W_eq hb (h2.trans e) h1
  have h5 : 2 ^ (ex b v - lo).toNat < 2 ^ A := by
    refine Nat.lt_of_le_of_lt ?_ s
    rw [h4, Int.natAbs_mul]
    refine Nat.le_trans ?_ (Nat.le_mul_of_pos_left _ (by omega))
    rw [NM.natAbs_pow]
    exact Nat.pow_le_pow_left (by omega) _
  have := (Nat.pow_lt_pow_iff_right (a := 2) (by decide)).mp h5
  omega
theorem Sz.down (hb2 : b ≤ 36) (h : Sz b v A lo) {l : Int} (hl : l ≤ lo) : Sz b v (A + 6 * (lo - l).toNat) l := by
  obtain ⟨n, rfl, s⟩ := h
  refine ⟨n * b ^ (lo - l).toNat, ?_, ?_⟩
  · rw [show W b lo = W b (lo - l) * W b l by rw [← W_add hb]; congr 1; omega, W_toNat b (by omega), Rat.intCast_mul]
    grind
  · rw [Int.natAbs_mul, Nat.pow_add]
    have h1 : (b ^ (lo - l).toNat).natAbs ≤ 2 ^ (6 * (lo - l).toNat) := Nat.le_trans (PM.pow36 (by omega) hb2 _) (PM.pow36_lt _)
    exact Nat.lt_of_lt_of_le (Nat.mul_lt_mul_of_pos_right s (by have := NM.pow_pos hb (lo - l).toNat; omega)) (Nat.mul_le_mul_left _ h1)
theorem Sz.to (hb2 : b ≤ 36) (h : Sz b v A lo) {l : Int} (hl : l ≤ lo) (hB : A + 6 * (lo - l).toNat ≤ B) : Sz b v B l := (h.down hb hb2 hl).mono hB
end
end NR
namespace PM
open PySem L2 GL DL NR
section
variable {b : Int} (hb : 2 ≤ b) (hb2 : b ≤ 36)
/-- the data of an effect -/
noncomputable abbrev effD (b : Int) (v : Rat) (q : Int) : D := .tup [numD b v, .int q]
theorem ten300 : (2 : Nat) ^ 996 ≤ 10 ^ 300 := by decide +kernel
theorem few_nat {n : Int} (h : n.natAbs < 2 ^ 996) : few n = true := by
  unfold few
  refine decide_eq_true ?_
  have h1 := ten300
  have h2 : ((10 ^ 300 : Nat) : Int) = (10 : Int) ^ 300 := by simp
  rw [← h2]
  generalize 10 ^ 300 = T at *
  generalize 2 ^ 996 = S at *
  split <;> omega
/-- v is the value of a number -/
def NumV (b : Int) (v : Rat) : Prop := Dy b v ∧ few (nm b v) = true ∧ -1000 ≤ ex b v ∧ ex b v ≤ 1000
include hb
theorem numV_of {v : Rat} {A : Nat} {lo : Int} (h : Sz b v A lo) (hA : A ≤ 996) (hl : -1000 ≤ lo) (hh : lo + A ≤ 1001) : NumV b v := by
  refine ⟨h.dy, few_nat (Nat.lt_of_lt_of_le (h.nm hb) (Nat.pow_le_pow_right (by decide) hA)), ?_⟩
  by_cases h0 : v = 0
  · subst h0
    rw [ex_zero hb]; omega
  · have h1 := h.ex_lo hb h0
    have h2 := h.ex_hi hb h0
    omega
theorem isNum_numD {v : Rat} (h : NumV b v) : isNum b (numD b v) = true := by
  obtain ⟨hd, h1, h2, h3⟩ := h
  show (decide (-1000 ≤ ex b v ∧ ex b v ≤ 1000) && (if nm b v = 0 then decide (ex b v = 0) else decide (nm b v % b ≠ 0) && few (nm b v))) = true
  rw [decide_eq_true ⟨h2, h3⟩, Bool.true_and]
  split
  · rename_i h0
    have := nm_eq0 hb hd h0
    rw [this, ex_zero hb]; rfl
  · rename_i h0
    rw [h1, Bool.and_true]
    refine decide_eq_true ?_
    rcases (hd.is hb).2 with h | ⟨h, _⟩
    · exact h
    · exact absurd h h0
include hb2
end
section
variable (b : Int) (v : Rat)
@[simp] theorem numD_ix0 : gIx (numD b v) (.int 0) = some (.val (.int (nm b v))) := rfl
@[simp] theorem numD_ix1 : gIx (numD b v) (.int 1) = some (.val (.int (ex b v))) := rfl
@[simp] theorem numD_of (fs : List (D → En → Option En)) (Γ : En) : bOfTup fs (numD b v) Γ = bTup fs [.int (nm b v), .int (ex b v)] Γ := rfl
@[simp] theorem numD_noObj : noObj (numD b v) = true := rfl
@[simp] theorem numD_fair : fair (numD b v) = true := rfl
theorem tup_ix0 (x : D) (r : List D) : gIx (.tup (x :: r)) (.int 0) = some (.val x) := by
  rw [gIx_tup, atI_nn (i := 0) (a := x) (by decide) rfl]; rfl
theorem tup_ix1 (x y : D) (r : List D) : gIx (.tup (x :: y :: r)) (.int 1) = some (.val y) := by
  rw [gIx_tup, atI_nn (i := 1) (a := y) (by decide) rfl]; rfl
end
end PM
namespace PM
open PySem L2 GL DL NR
end PM
namespace NR
end NR
namespace PM
open PySem L2 GL DL NR
end PM
namespace PM
open PySem L2 GL DL NR
end PM
namespace PM
open PySem L2 GL DL NR
theorem seq_step {a b : En → Out} {Γ Γ' : En} {o : Out} (h : a Γ = .nx Γ') (g : b Γ' = o) : mSeq a b Γ = o := by rw [seq_eq, h, then_nx, g]
theorem law_loop {M : List D → Res DL.Slot} {B : En → Out} {N : Nat} {m : Nat} (hN : N ≤ 63)
    (hM : M = mBody (m + 3) (mSeq (mFor (iEnumr (eOp gAdd (eSl (eVar 0) pN (pS (eC (.int (N : Int))))) (eOp gMul (eAll (fLst (eCons (eC (.int 7)) eNil))) (eUn gInt (eOp gEq (eVar 0) (eAll (fLst eNil))))))) (bOfTup [(bName 1), (bName 2)]) B) (mRet (eC (.bl true)))))
    (turn : ∀ (ns : List Int) (k : Nat) (c : Int) (r : En), k < 1000 → r.length = m → ∃ r', r'.length = m ∧ B (.sh (.scr ns) :: .sh (.int (k : Int)) :: .sh (.int c) :: r) = .nx (.sh (.scr ns) :: .sh (.int (k : Int)) :: .sh (.int c) :: r')) : LawTrue M := by
  intro ns hn
  rw [hM, body_eq]
  obtain ⟨cs, hc, xs, e1, k, e2, ys, e3, e4⟩ := cells_eq ns hn N
  have e5 := scr_nil ns
  obtain ⟨Γ', e6, x1, x2, r, rfl, hr⟩ := forM_inv (g := bOfTup [bName 1, bName 2]) (b := B) (fun _ Γ => ∃ x1 x2 r, Γ = .sh (.scr ns) :: x1 :: x2 :: r ∧ r.length = m)
    (enumD 0 (cs.map .int)) 0 (.sh (.scr ns) :: .un :: .un :: List.replicate m .un) ⟨_, _, _, rfl, by simp⟩ (by
      rintro i x Γ hx ⟨x1, x2, r, rfl, hr⟩
      have hi : i < cs.length := by
        have := (List.getElem?_eq_some_iff.mp hx).1
        rwa [enumD_len, List.length_map] at this
      rw [enumD_get (d := D.int cs[i]) (by rw [List.getElem?_map, List.getElem?_eq_getElem hi]; rfl)] at hx
      cases hx
      rw [Nat.zero_add]
      obtain ⟨r', hr', h⟩ := turn ns i cs[i] r (by omega) hr
      exact ⟨_, _, rfl, .inl h, _, _, _, rfl, hr'⟩)
  simp [e1, e5, e2, e3, e4, e6, List.replicate_succ]
/-- the digit at k -/
def dg (ds : List Int) (k : Nat) : Int := ds.getD k 0
theorem Digs.at_ {z : Int} {n : Nat} {ds : List Int} (h : Digs z n ds) {k : Nat} (hk : k < n) : gIx (.lst (ds.map .int)) (.int (k : Int)) = some (.val (.int (dg ds k))) ∧ 0 ≤ dg ds k ∧ dg ds k < z := by
  have hl : k < ds.length := by rw [h.1]; exact hk
  have e : ds[k]? = some ds[k] := List.getElem?_eq_getElem hl
  have e2 : dg ds k = ds[k] := by unfold dg; rw [List.getD_eq_getElem?_getD, e]; rfl
  refine ⟨?_, ?_⟩
  · rw [gIx_lst, atI_nat (j := k) (v := D.int (dg ds k)) (by rw [List.getElem?_map, e, e2]; rfl)]
    rfl
  · rw [e2]; exact h.2 _ (List.getElem_mem hl)
theorem Digs.from_ {z : Int} {n : Nat} {ds : List Int} (h : Digs z n ds) {k : Nat} (hk : k ≤ n) : gSl (some (k : Int)) none (.lst (ds.map .int)) = some (.newL ((ds.drop k).map .int)) := by
  have e := sl_from (ds.map .int) k (by rw [List.length_map, h.1]; exact hk)
  rw [List.map_drop]
  exact e
/-- an item by a digit -/
theorem pick_all {xs : List D} {P : D → Prop} (h : ∀ x ∈ xs, P x) {n : Nat} (hn : xs.length = n) (h0 : 0 < n) (d : Int) : ∃ x, gIx (.lst xs) (.int (d % (n : Int))) = some (.val x) ∧ P x := by
  have h1 := Int.emod_nonneg d (show (n : Int) ≠ 0 by omega)
  have h2 := Int.emod_lt_of_pos d (show (0 : Int) < n by omega)
  have hl : (d % (n : Int)).toNat < xs.length := by omega
  exact ⟨xs[(d % (n : Int)).toNat], by rw [gIx_lst, atI_nn h1 (List.getElem?_eq_getElem hl)]; rfl, h _ (List.getElem_mem hl)⟩
theorem pick_int {xs : List Int} {P : Int → Prop} (h : ∀ x ∈ xs, P x) {n : Nat} (hn : xs.length = n) (h0 : 0 < n) (d : Int) : ∃ x, gIx (.lst (xs.map .int)) (.int (d % (n : Int))) = some (.val (.int x)) ∧ P x := by
  obtain ⟨y, h1, x, rfl, h2⟩ := pick_all (xs := xs.map .int) (P := fun y => ∃ x, y = .int x ∧ P x) (fun y hy => by
    obtain ⟨x, hx, rfl⟩ := List.mem_map.mp hy
    exact ⟨x, rfl, h x hx⟩) (by rw [List.length_map]; exact hn) h0 d
  exact ⟨x, h1, h2⟩
end PM
namespace PM
open PySem L2 GL DL NR
end PM
namespace PM
open PySem L2 GL DL NR
end PM
namespace PM
open PySem L2 GL DL NR
end PM
namespace NR
end NR
namespace PM
open PySem L2 GL DL NR
end PM
namespace PM
open PySem L2 GL DL NR
@[simp] theorem isNon_eff (b : Int) (v : Rat) (q : Int) : DL.isNon (effD b v q) = false := rfl
@[simp] theorem isNon_num (b : Int) (v : Rat) : DL.isNon (numD b v) = false := rfl
section
variable {b : Int} (hb : 2 ≤ b) (hb2 : b ≤ 36)
include hb hb2
omit hb hb2 in
@[simp] theorem isN_non : gIsN .non .non = some (.val (.bl true)) := rfl
omit hb hb2 in
@[simp] theorem notN_non : gNotN .non .non = some (.val (.bl false)) := rfl
omit hb hb2 in
@[simp] theorem isN_num (v : Rat) : gIsN (numD b v) .non = some (.val (.bl false)) := rfl
omit hb hb2 in
@[simp] theorem notN_num (v : Rat) : gNotN (numD b v) .non = some (.val (.bl true)) := rfl
omit hb hb2 in
@[simp] theorem isN_eff (v : Rat) (q : Int) : gIsN (effD b v q) .non = some (.val (.bl false)) := rfl
omit hb hb2 in
@[simp] theorem notN_eff (v : Rat) (q : Int) : gNotN (effD b v q) .non = some (.val (.bl true)) := rfl
end
end PM
namespace NR
end NR
namespace PM
open PySem L2 GL DL NR
section
variable {b : Int} (hb : 2 ≤ b) (hb2 : b ≤ 36)
include hb hb2
omit hb hb2 in
theorem rangeD_eq (n : Nat) : rangeD 0 n = (List.range n).map fun (j : Nat) => D.int (j : Int) := by
  apply List.ext_getElem?
  intro i
  by_cases h : i < n
  · rw [rangeD_get 0 h, List.getElem?_map, List.getElem?_range h]; simp
  · rw [List.getElem?_eq_none (by rw [rangeD_len]; omega), List.getElem?_eq_none (by simp; omega)]
end
end PM
namespace NR
def Cg (M x y : Int) : Prop := M ∣ x - y
section
variable {M x y z w : Int}
theorem Cg.refl (x : Int) : Cg M x x := by unfold Cg; rw [Int.sub_self]; exact Int.dvd_zero _
theorem Cg.symm (h : Cg M x y) : Cg M y x := by
  unfold Cg at *
  have := (Int.dvd_neg (a := M) (b := x - y)).mpr h
  rwa [Int.neg_sub] at this
theorem Cg.trans (h : Cg M x y) (g : Cg M y z) : Cg M x z := by
  unfold Cg at *
  have := Int.dvd_add h g
  rwa [show x - y + (y - z) = x - z by omega] at this
theorem Cg.add (h : Cg M x y) (g : Cg M z w) : Cg M (x + z) (y + w) := by
  unfold Cg at *
  have := Int.dvd_add h g
  rwa [show x - y + (z - w) = x + z - (y + w) by omega] at this
theorem Cg.neg (h : Cg M x y) : Cg M (-x) (-y) := by
  unfold Cg at *
  have := (Int.dvd_neg (a := M) (b := x - y)).mpr h
  rwa [show -(x - y) = -x - -y by omega] at this
end
section
variable {b : Int} {s : Nat}
/-- the exponent of a place, modulo s -/
def rs (s : Nat) (e : Int) : Nat := (e % (s : Int)).toNat
variable (hb : 2 ≤ b) (hs : 0 < s)
include hb hs
end
end NR
namespace PM
open PySem L2 GL DL
def LL : Int := (10 ^ 60) ^ 5
theorem LL_eq : LL = 10 ^ 300 := by unfold LL; rw [← Int.pow_mul]
theorem LL_1 : gPow (.int 10) (.int 60) = some (.val (.int (10 ^ 60))) := pow_ok (j := 60) (a := 4) (by decide) (by decide)
theorem LL_2 : gPow (.int (10 ^ 60)) (.int 5) = some (.val (.int LL)) := pow_ok (j := 5) (a := 200) (by decide +kernel) (by decide)
section
variable (C : Addr) (b m a f l : D)
theorem rowParts_row : rowParts C (rowD C b m a f l) = some [b, m, a, f, l] := by
  unfold rowParts rowD
  simp
@[simp] theorem gRow_0 : gRow C 0 (rowD C b m a f l) = some (.val b) := by unfold gRow; rw [rowParts_row]; rfl
@[simp] theorem gRow_1 : gRow C 1 (rowD C b m a f l) = some (.val m) := by unfold gRow; rw [rowParts_row]; rfl
@[simp] theorem gRow_2 : gRow C 2 (rowD C b m a f l) = some (.val a) := by unfold gRow; rw [rowParts_row]; rfl
@[simp] theorem gRow_3 : gRow C 3 (rowD C b m a f l) = some (.val f) := by unfold gRow; rw [rowParts_row]; rfl
@[simp] theorem gRow_4 : gRow C 4 (rowD C b m a f l) = some (.val l) := by unfold gRow; rw [rowParts_row]; rfl
end
@[simp] theorem eProp_def (C : Addr) (i : Nat) (m : MD) (Γ : En) : eProp C i m Γ = (m Γ).bind fun d => toR (gRow C i d) := rfl
@[simp] theorem gIsN_non (d : D) : gIsN d .non = some (.val (.bl (DL.isNon d))) := rfl
@[simp] theorem gNotN_non (d : D) : gNotN d .non = some (.val (.bl (!DL.isNon d))) := rfl
@[simp] theorem isNon_non : DL.isNon .non = true := rfl
@[simp] theorem isNon_int (i : Int) : DL.isNon (.int i) = false := rfl
theorem comp_eq (vs : List Nat) (mi : ML) (g : D → En → Option En) (t : En → Res Bool) (m : MD) (Γ : En) : mComp vs mi g t m Γ = (mi Γ).bind fun xs => need (xs.length < 1000000) (compM g t m (wipeE Γ vs) xs) := rfl
structure Smp (d : D) : Prop where
  pl : DL.plain d = true
  cl : (py d).canLay0 = true
  dp : (py d).depth ≤ 10
  no : noObj d = true
theorem Smp.int (i : Int) : Smp (.int i) := ⟨by unfold DL.plain; rfl, by unfold py; rfl, by unfold py; simp [PyData.depth], rfl⟩
theorem Smp.bl (b : Bool) : Smp (.bl b) := ⟨by unfold DL.plain; rfl, by unfold py; rfl, by unfold py; simp [PyData.depth], rfl⟩
theorem Smp.str {x : Str} (h : (PyData.str x).canLay0 = true) : Smp (.str x) := ⟨by unfold DL.plain; rfl, by unfold py; exact h, by unfold py; simp [PyData.depth], rfl⟩
theorem Smp.non : Smp .non := ⟨by unfold DL.plain; rfl, by unfold py; rfl, by unfold py; simp [PyData.depth], rfl⟩
theorem smp_all : ∀ {xs : List D}, (∀ x ∈ xs, Smp x) → plainAll xs = true ∧ PyData.canLayAll0 (pyAll xs) = true ∧ PyData.depthAll (pyAll xs) ≤ 11
  | [], _ => by unfold plainAll pyAll; exact ⟨rfl, by simp only [PyData.canLayAll0], by simp only [PyData.depthAll]; omega⟩
  | x :: r, h => by
    obtain ⟨h1, h2, h3⟩ := smp_all fun y hy => h y (List.mem_cons_of_mem _ hy)
    have hx := h x List.mem_cons_self
    unfold plainAll pyAll
    refine ⟨by rw [hx.pl, h1]; rfl, by simp only [PyData.canLayAll0, hx.cl, h2, Bool.and_self], ?_⟩
    have := hx.dp
    simp only [PyData.depthAll]
    omega
theorem eqOk_lst {xs : List D} (h : ∀ x ∈ xs, Smp x) : eqOk (.lst xs) = true := by
  obtain ⟨h1, h2, h3⟩ := smp_all h
  unfold eqOk SeqAt.shaped
  have e1 : DL.plain (.lst xs) = true := by unfold DL.plain; exact h1
  have e2 : py (.lst xs) = .list (pyAll xs) := by unfold py; rfl
  rw [e1, e2]
  have e3 : (PyData.list (pyAll xs)).canLay0 = true := by simpa only [PyData.canLay0] using h2
  have e4 : (PyData.list (pyAll xs)).depth ≤ 64 := by simp only [PyData.depth]; omega
  rw [e3, decide_eq_true e4]
  rfl
theorem ne_nil {xs : List D} : gNe (.lst xs) (.lst []) = some (.val (.bl (!xs.isEmpty))) := rfl
/-- how a row's ends stand for limits -/
structure Ends (f l : D) (lo hi : Int) : Prop where
  lo_ : (f = .non ∧ lo = -1000) ∨ (f = .int lo ∧ -1000 ≤ lo)
  hi_ : (l = .non ∧ hi = 1000) ∨ (l = .int hi ∧ hi ≤ 1000)
end PM
namespace PM
open PySem L2 GL DL NR
theorem gNe_same {d : D} (h : eqOk d = true) : gNe d d = some (.val (.bl false)) := by
  have r : PyData.eqv (py d) (py d) = true := SeqAt.eqv_refl _ (SeqAt.canLay_of_shaped (eqOk_of h).2)
  have g : gNeD d d = some (.val (.bl false)) := by
    unfold gNeD
    rw [giv_pos ⟨h, h⟩, r]; rfl
  cases d with
  | str x => simp [gNe]
  | lst xs => cases xs with
    | nil => rfl
    | cons x r => exact g
  | _ => exact g
end PM
namespace PM
open PySem L2 GL DL NR
end PM
namespace PM
open PySem L2 GL DL NR
def txt (d : D) : Str := (pyR d).shown
def textOk (d : D) : Bool := shows d && ((pyR d).showable && (decide ((pyR d).depth ≤ 60) && (decide ((pyR d).shown.length ≤ 5000) && (PyData.str (pyR d).shown).canLay0)))
theorem textOk_iff {d : D} : textOk d = true ↔ shows d = true ∧ (pyR d).showable = true ∧ (pyR d).depth ≤ 60 ∧ (pyR d).shown.length ≤ 5000 ∧ (PyData.str (pyR d).shown).canLay0 = true := by
  unfold textOk
  rw [Bool.and_eq_true, Bool.and_eq_true, Bool.and_eq_true, Bool.and_eq_true, decide_eq_true_iff, decide_eq_true_iff]
theorem txt_repr {d : D} (h : textOk d = true) : gRepr d = some (.val (.str (txt d))) := by
  obtain ⟨h1, h2, h3, h4, _⟩ := textOk_iff.mp h
  exact gRepr_of ⟨h1, h2, h3, Nat.le_trans h4 (by rw [sizeLine_eq]; decide)⟩
end PM
namespace PM
open PySem L2 GL DL NR
end PM
namespace PM
open PySem L2 GL DL NR
inductive Op where
  | R | L | A | S
  deriving DecidableEq
def Op.s : Op → Str
  | .R => "R" | .L => "L" | .A => "A" | .S => "S"
def Op.sh : Op → Int
  | .R => 1 | .L => -1 | .A => 0 | .S => 0
abbrev Run := Op × Int
def runD (r : Run) : D := .tup [.str r.1.s, .int r.2]
theorem is_run_ok (o : Op) {n : Int} (h : 1 ≤ n) : M_is_run [runD (o, n)] = .ok (.sh (.bl true)) := by
  have e := is_whole_eq (noObj_int n)
  have lt : ¬ n < 1 := by omega
  have i1 : gIsi .str (.str o.s) = some (.val (.bl true)) := rfl
  have i2 : gIn false (.str o.s) (.tup [.str "R", .str "L", .str "A", .str "S"]) = some (.val (.bl true)) := by cases o <;> rfl
  unfold M_is_run runD
  rw [body_eq]
  simp [e, isWhole, lt, i1, i2]
/-- what stands before -/
def befD : Option Op → D
  | none => .non
  | some o => .str o.s
theorem eq_bef (o : Op) (p : Option Op) : gEq (.str o.s) (befD p) = some (.val (.bl (decide (p = some o)))) := by
  cases p with
  | none =>
    have e1 : eqOk (.str o.s) = true := by cases o <;> decide +kernel
    have e2 : eqOk .non = true := by decide +kernel
    show giv (eqOk (.str o.s) = true ∧ eqOk .non = true) (.bl (PyData.eqv (py (.str o.s)) (py .non))) = _
    rw [giv_pos ⟨e1, e2⟩]
    simp [py, PyData.eqv]
  | some p =>
    show gEq (.str o.s) (.str p.s) = _
    rw [gEq_str]
    have : (o.s == p.s) = decide (some p = some o) := by cases o <;> cases p <;> decide +kernel
    rw [this]
/-- neighbours differ, counts are at least 1 -/
def Alt : Option Op → List Run → Prop
  | _, [] => True
  | p, (o, n) :: r => p ≠ some o ∧ 1 ≤ n ∧ Alt (some o) r
def lastOp : Option Op → List Run → Option Op
  | p, [] => p
  | _, (o, _) :: r => lastOp (some o) r
theorem enumD_app : ∀ (i : Nat) (xs ys : List D), enumD i (xs ++ ys) = enumD i xs ++ enumD (i + xs.length) ys
  | i, [], ys => by simp [enumD]
  | i, x :: xs, ys => by
    show _ :: enumD (i + 1) (xs ++ ys) = _ :: (enumD (i + 1) xs ++ _)
    rw [enumD_app (i + 1) xs ys]
    have : i + 1 + xs.length = i + (x :: xs).length := by simp only [List.length_cons]; omega
    rw [this]
theorem wrong_turn (d0 : DL.Slot) (p : Option Op) (o : Op) {n : Int} (h : p ≠ some o) (hn : 1 ≤ n) (i : Int) :
    B_wrong_run_1 [d0, .sh (befD p), .sh (.int i), .sh (runD (o, n))] = .nx [d0, .sh (befD (some o)), .sh (.int i), .sh (runD (o, n))] := by
  have e1 := is_run_ok o hn
  have e2 := eq_bef o p
  rw [decide_eq_false h] at e2
  have e3 : gIx (runD (o, n)) (.int 0) = some (.val (.str o.s)) := tup_ix0 _ _
  show _ = Out.nx [d0, .sh (.str o.s), .sh (.int i), .sh (runD (o, n))]
  generalize befD p = bp at *
  unfold B_wrong_run_1
  simp [e1, e3, e2]
theorem wrong_loop (d0 : DL.Slot) (tl : List D) : ∀ (rs : List Run) (p : Option Op) (i : Nat) (x2 x3 : DL.Slot), Alt p rs → ∃ x2' x3',
    DL.forM (bOfTup [bName 2, bName 3]) B_wrong_run_1 (enumD i (rs.map runD) ++ tl) [d0, .sh (befD p), x2, x3] = DL.forM (bOfTup [bName 2, bName 3]) B_wrong_run_1 tl [d0, .sh (befD (lastOp p rs)), x2', x3']
  | [], p, i, x2, x3, _ => ⟨x2, x3, rfl⟩
  | (o, n) :: r, p, i, x2, x3, h => by
    obtain ⟨h1, h2, h3⟩ := h
    obtain ⟨x2', x3', e⟩ := wrong_loop d0 tl r (some o) (i + 1) (.sh (.int (i : Int))) (.sh (runD (o, n))) h3
    refine ⟨x2', x3', ?_⟩
    show DL.forM _ _ (.tup [.int (i : Int), runD (o, n)] :: (enumD (i + 1) (r.map runD) ++ tl)) _ = _
    rw [forM_cons _ _ _ _ _ [d0, .sh (befD p), .sh (.int (i : Int)), .sh (runD (o, n))] rfl, wrong_turn d0 p o h1 h2]
    exact e
theorem wrong_none {rs : List Run} (h : Alt none rs) : M_wrong_run [.lst (rs.map runD)] = .ok (.sh .non) := by
  obtain ⟨x2, x3, e⟩ := wrong_loop (.sh (.lst (rs.map runD))) [] rs none 0 .un .un h
  rw [List.append_nil] at e
  unfold M_wrong_run
  rw [body_eq]
  simp [befD] at e
  simp [e, DL.forM]
/-- a bad run behind good ones -/
theorem wrong_some {rs : List Run} {x : D} {r : List D} (h : Alt none rs) (hx : M_is_run [x] = .ok (.sh (.bl false)) ∨ ∃ o n, x = runD (o, n) ∧ 1 ≤ n ∧ lastOp none rs = some o) :
    M_wrong_run [.lst (rs.map runD ++ x :: r)] = .ok (.sh (.int rs.length)) := by
  obtain ⟨x2, x3, e⟩ := wrong_loop (.sh (.lst (rs.map runD ++ x :: r))) (enumD rs.length (x :: r)) rs none 0 .un .un h
  have ea := enumD_app 0 (rs.map runD) (x :: r)
  rw [Nat.zero_add, List.length_map] at ea
  rw [← ea] at e
  have e2 : DL.forM (bOfTup [bName 2, bName 3]) B_wrong_run_1 (enumD rs.length (x :: r)) [.sh (.lst (rs.map runD ++ x :: r)), .sh (befD (lastOp none rs)), x2, x3] = .rt (.sh (.int rs.length)) := by
    show DL.forM _ _ (.tup [.int (rs.length : Int), x] :: enumD (rs.length + 1) r) _ = _
    rw [forM_cons _ _ _ _ _ [.sh (.lst (rs.map runD ++ x :: r)), .sh (befD (lastOp none rs)), .sh (.int (rs.length : Int)), .sh x] rfl]
    have : B_wrong_run_1 [.sh (.lst (rs.map runD ++ x :: r)), .sh (befD (lastOp none rs)), .sh (.int (rs.length : Int)), .sh x] = .rt (.sh (.int rs.length)) := by
      unfold B_wrong_run_1
      rcases hx with hx | ⟨o, n, rfl, hn, hl⟩
      · simp [hx]
      · have e1 := is_run_ok o hn
        have e2 := eq_bef o (lastOp none rs)
        rw [decide_eq_true hl] at e2
        have e3 : gIx (runD (o, n)) (.int 0) = some (.val (.str o.s)) := tup_ix0 _ _
        simp [e1, e3, e2]
    rw [this]; rfl
  rw [e2] at e
  unfold M_wrong_run
  rw [body_eq]
  simp [befD] at e
  simp [e]
def posL : Int → List Run → List Int
  | _, [] => []
  | p, (o, n) :: r => (p + o.sh * n) :: posL (p + o.sh * n) r
/-- counts of a moderate size -/
def Mod1 (rs : List Run) : Prop := ∀ r ∈ rs, r.2.natAbs < 2 ^ 1400
end PM
namespace PM
open PySem L2 GL DL NR
end PM
namespace PM
open PySem L2 GL DL NR
end PM
namespace PM
open PySem L2 GL DL NR
def tO (o : Op) : List Run → Int
  | [] => 0
  | (x, n) :: r => (if x = o then n else 0) + tO o r
def absR : List Run → Nat
  | [] => 0
  | (_, n) :: r => n.natAbs + absR r
theorem absR_mem {rs : List Run} {r : Run} (h : r ∈ rs) : r.2.natAbs ≤ absR rs := by
  induction rs with
  | nil => cases h
  | cons x xs ih =>
    obtain ⟨o, n⟩ := x
    simp only [absR]
    rcases List.mem_cons.mp h with rfl | h
    · omega
    · have := ih h; omega
/-- where the positions lie -/
theorem pos_range : ∀ (rs : List Run) (s : Int), (∀ r ∈ rs, 0 ≤ r.2) → ∃ lo hi, lo ≤ s ∧ s ≤ hi ∧ (∀ p ∈ posL s rs, lo ≤ p ∧ p ≤ hi) ∧ hi ≤ s + tO .R rs ∧ s - tO .L rs ≤ lo ∧ (hi - lo ≤ tO .R rs ∨ hi - lo ≤ tO .L rs) ∧ 0 ≤ tO .R rs ∧ 0 ≤ tO .L rs
  | [], s, _ => ⟨s, s, Int.le_refl _, Int.le_refl _, (fun p hp => by cases hp), by simp [tO]⟩
  | (o, n) :: r, s, h => by
    have hn : 0 ≤ n := h (o, n) List.mem_cons_self
    obtain ⟨lo, hi, h1, h2, h3, h4, h5, h6, h7, h8⟩ := pos_range r (s + o.sh * n) fun q hq => h q (List.mem_cons_of_mem _ hq)
    have key : ∀ lo' hi' : Int, lo' ≤ lo → hi ≤ hi' → ∀ p ∈ posL s ((o, n) :: r), lo' ≤ p ∧ p ≤ hi' := fun lo' hi' a b p hp => by
      rcases List.mem_cons.mp hp with rfl | hp
      · omega
      · have := h3 p hp; omega
    cases o with
    | R =>
      simp only [Op.sh, Int.one_mul] at *
      refine ⟨min s lo, hi, by omega, by omega, key _ _ (by omega) (Int.le_refl _), ?_⟩
      simp only [tO, if_true, reduceCtorEq, if_false]
      omega
    | L =>
      simp only [Op.sh] at *
      refine ⟨lo, max s hi, by omega, by omega, key _ _ (Int.le_refl _) (by omega), ?_⟩
      simp only [tO, if_true, reduceCtorEq, if_false]
      omega
    | A =>
      simp only [Op.sh, Int.zero_mul, Int.add_zero] at *
      refine ⟨lo, hi, by omega, by omega, key _ _ (Int.le_refl _) (Int.le_refl _), ?_⟩
      simp only [tO, if_true, reduceCtorEq, if_false]
      omega
    | S =>
      simp only [Op.sh, Int.zero_mul, Int.add_zero] at *
      refine ⟨lo, hi, by omega, by omega, key _ _ (Int.le_refl _) (Int.le_refl _), ?_⟩
      simp only [tO, if_true, reduceCtorEq, if_false]
      omega
theorem alt_app : ∀ (rs : List Run) (p : Option Op) (o : Op) (n : Int), Alt p rs → lastOp p rs ≠ some o → 1 ≤ n → Alt p (rs ++ [(o, n)])
  | [], p, o, n, _, h1, h2 => ⟨h1, h2, trivial⟩
  | (x, m) :: r, p, o, n, h, h1, h2 => ⟨h.1, h.2.1, alt_app r (some x) o n h.2.2 h1 h2⟩
theorem lastOp_app : ∀ (rs : List Run) (p : Option Op) (o : Op) (n : Int), lastOp p (rs ++ [(o, n)]) = some o
  | [], p, o, n => rfl
  | (x, m) :: r, p, o, n => lastOp_app r (some x) o n
end PM
namespace PM
open PySem L2 GL DL NR
theorem snoc_or {α : Type} (xs : List α) : xs = [] ∨ ∃ t x, xs = t ++ [x] := by
  rcases xs.eq_nil_or_concat with h | ⟨t, x, h⟩
  · exact .inl h
  · exact .inr ⟨t, x, by rw [h]; simp⟩
theorem alt_split : ∀ (rs : List Run) (p : Option Op) (o : Op) (n : Int), Alt p (rs ++ [(o, n)]) → Alt p rs ∧ lastOp p rs ≠ some o ∧ 1 ≤ n
  | [], p, o, n, h => ⟨trivial, h.1, h.2.1⟩
  | (x, m) :: r, p, o, n, h => by
    have := alt_split r (some x) o n h.2.2
    exact ⟨⟨h.1, h.2.1, this.1⟩, this.2⟩
theorem ixN_last {n : Nat} (h : 0 < n) : ixN n (-1) = some (n - 1) := by
  unfold ixN
  rw [if_neg (by decide), if_pos (by omega)]
  congr 1; omega
theorem gIx_last (t : List D) (x : D) : gIx (.lst (t ++ [x])) (.int (-1)) = some (.val x) := by
  show (atI (t ++ [x]) (-1)).map Giv.val = _
  unfold atI
  rw [ixN_last (by simp)]
  simp
theorem alt_pos : ∀ {rs : List Run} {p : Option Op}, Alt p rs → ∀ r ∈ rs, 1 ≤ r.2
  | (o, n) :: r, p, h, q, hq => by
    rcases List.mem_cons.mp hq with rfl | hq
    · exact h.2.1
    · exact alt_pos h.2.2 q hq
end PM
namespace PM
open PySem L2 GL DL NR
/-- a sequence whose positions stay near, whose counts are small -/
structure Near (rs : List Run) (R c : Nat) : Prop where
  alt : Alt none rs
  len : rs.length ≤ 16
  tr : tO .R rs ≤ R
  tl : tO .L rs ≤ R
  abs_ : absR rs < 2 ^ c
theorem Near.pos {rs : List Run} {R c : Nat} (h : Near rs R c) : ∀ r ∈ rs, 0 ≤ r.2 := fun r hr => by have := alt_pos h.alt r hr; omega
theorem Near.range {rs : List Run} {R c : Nat} (h : Near rs R c) (s : Int) : ∃ lo, lo ≤ s ∧ s ≤ lo + R ∧ s - R ≤ lo ∧ (∀ p ∈ posL s rs, lo ≤ p ∧ p ≤ lo + R) := by
  obtain ⟨lo, hi, h1, h2, h3, h4, h5, h6, h7, h8⟩ := pos_range rs s h.pos
  have t1 := h.tr
  have t2 := h.tl
  refine ⟨lo, h1, by omega, by omega, fun p hp => ?_⟩
  have := h3 p hp
  omega
theorem Near.mod {rs : List Run} {R c : Nat} (h : Near rs R c) (hc : c ≤ 1400) : Mod1 rs := fun r hr => Nat.lt_of_le_of_lt (absR_mem hr) (Nat.lt_of_lt_of_le h.abs_ (Nat.pow_le_pow_right (by decide) hc))
theorem gIn_str (x y : Str) : gIn false (.str x) (.str y) = some (.val (.bl (inS x y))) := rfl
theorem gIx_str {z : Str} {i : Int} {c : Nat} (hl : z.length ≤ 1000000) (h : atI z.cps.toList i = some c) : gIx (.str z) (.int i) = some (.val (.str ⟨#[c]⟩)) := by
  show (if z.length ≤ 1000000 then (atI z.cps.toList i).map fun c => Giv.val (.str ⟨#[c]⟩) else none) = _
  rw [if_pos hl, h]; rfl
theorem pick_letter {x : Int} (h0 : 0 ≤ x) : ∃ o : Op, gIx (.str "RLAS") (.int (x % 4)) = some (.val (.str o.s)) := by
  have : x % 4 = 0 ∨ x % 4 = 1 ∨ x % 4 = 2 ∨ x % 4 = 3 := by omega
  rcases this with h | h | h | h <;> rw [h]
  · exact ⟨.R, gIx_str (c := 82) (by decide +kernel) (by decide +kernel)⟩
  · exact ⟨.L, gIx_str (c := 76) (by decide +kernel) (by decide +kernel)⟩
  · exact ⟨.A, gIx_str (c := 65) (by decide +kernel) (by decide +kernel)⟩
  · exact ⟨.S, gIx_str (c := 83) (by decide +kernel) (by decide +kernel)⟩
theorem ne_last (o x : Op) : gNe (.str x.s) (.str o.s) = some (.val (.bl (!decide (x = o)))) := by
  rw [gNe_str]
  have : (x.s == o.s) = decide (x = o) := by cases o <;> cases x <;> decide +kernel
  rw [this]
end PM
namespace PM
open PySem L2 GL DL NR
theorem pyR_plain' {d : D} (h : DL.plain d = true) : pyR d = py d ∧ pyS d = py d := by
  cases d with
  | tup xs =>
    have h2 : plainAll xs = true := by unfold DL.plain at h; exact h
    refine ⟨?_, rfl⟩
    show PyData.tuple (xs.map pyS) = py (.tup xs)
    unfold py
    rw [pyAll_map xs h2]
  | dic ks xs => unfold DL.plain at h; cases h
  | _ => exact ⟨rfl, rfl⟩
theorem shown_sw' {d : D} {k b : Nat} (h : DL.plain d = true) (s : Sw (py d) k b) (hk : k ≤ 60) (hb : b ≤ 5000) : Shown d := by
  have e := (pyR_plain' h).1
  unfold Shown
  rw [e]
  refine ⟨?_, s.sh, Nat.le_trans s.dp hk, s.len hb⟩
  cases d with
  | tup xs =>
    have h2 : plainAll xs = true := by unfold DL.plain at h; exact h
    show (plainAll xs || _) = true
    rw [h2]; rfl
  | dic ks xs => unfold DL.plain at h; cases h
  | _ => exact h
theorem run_sw {r : Run} (h : r.2.natAbs < 2 ^ 1900) : Sw (py (runD r)) 1 3 := by
  obtain ⟨o, n⟩ := r
  have h2 : Sw (.int n) 0 0 := Sw.int h
  have h1 : Sw (.str o.s) 0 1 := by
    have := Sw.str (x := o.s) (by cases o <;> decide +kernel)
    exact this.up (Nat.le_refl _) (by cases o <;> decide +kernel)
  have e : py (runD (o, n)) = .tuple [.str o.s, .int n] := by unfold runD py pyAll pyAll pyAll py; rfl
  rw [e]
  exact (Sw.tuple (.cons h1 (.cons h2 .nil))).up (by decide) (by decide)
theorem runs_swAll : ∀ {rs : List Run}, (∀ r ∈ rs, r.2.natAbs < 2 ^ 1900) → SwAll (pyAll (rs.map runD)) 1 (4 * rs.length)
  | [], _ => by
    show SwAll (pyAll []) 1 0
    unfold pyAll
    exact ⟨rfl, rfl, by decide, by decide⟩
  | r :: rs, h => by
    have a := run_sw (h r List.mem_cons_self)
    have b := runs_swAll fun q hq => h q (List.mem_cons_of_mem _ hq)
    show SwAll (pyAll (runD r :: rs.map runD)) 1 _
    unfold pyAll
    have c := SwAll.cons a b
    refine ⟨c.sh, c.lf, Nat.le_trans c.dp (by decide), Nat.le_trans c.bk ?_⟩
    simp only [List.length_cons]; omega
theorem runs_sw {rs : List Run} (h : ∀ r ∈ rs, r.2.natAbs < 2 ^ 1900) : Sw (py (.lst (rs.map runD))) 2 (4 * rs.length) := by
  unfold py
  exact Sw.list (runs_swAll h)
theorem runs_plainAll : ∀ rs : List Run, plainAll (rs.map runD) = true
  | [] => by show plainAll [] = true; unfold plainAll; rfl
  | r :: rs => by
    show plainAll (runD r :: rs.map runD) = true
    unfold plainAll
    rw [runs_plainAll rs]
    unfold runD DL.plain plainAll plainAll plainAll DL.plain
    rfl
end PM
namespace PM
open PySem L2 GL DL NR
open TL (tl numL)
abbrev S := SX.S
/-- an integer's text -/
def dec (n : Int) : Str := Str.ofString (toString n)
theorem tl_S (a : List Nat) : tl (S a) = a := rfl
theorem dec_S (n : Int) : dec n = S (intL n) := TL.ext_tl (by rw [tl_S]; rfl)
theorem S_len (a : List Nat) : (S a).length = a.length := SX.S_len a
theorem lit_minus : ("-" : Str) = S [45] := TL.ext_tl (by rw [tl_S]; decide +kernel)
theorem lit_zero : ("0" : Str) = S [48] := TL.ext_tl (by rw [tl_S]; decide +kernel)
theorem lit_none : ("" : Str) = S [] := TL.ext_tl (by rw [tl_S]; decide +kernel)
theorem lit_digits : ("0123456789" : Str) = S [48, 49, 50, 51, 52, 53, 54, 55, 56, 57] := TL.ext_tl (by rw [tl_S]; decide +kernel)
theorem S_beq (a b : List Nat) : (S a == S b) = (a == b) := SX.S_beq a b
theorem S_cat (a b : List Nat) : S a ++ S b = S (a ++ b) := SX.S_cat a b
theorem sw_S (a : List Nat) : gSw (.str (S a)) (.str (S [45])) = some (.val (.bl (a.head? == some 45))) := by
  show some (Giv.val (D.bl (Txt.startswith (S a) (S [45])))) = _
  unfold Txt.startswith
  rw [PySem.StrLaws.subAt_eq]
  have e1 : (S a).cps.toList = a := rfl
  have e2 : (S [45]).cps.toList = [45] := rfl
  rw [e1, e2, S_len, S_len]
  cases a with
  | nil => rfl
  | cons c r =>
    have : (0 + [45].length ≤ (c :: r).length) := by simp
    simp
theorem cut1_S (c : Nat) (a : List Nat) (h : a.length < 1000000) : gSl (some 1) none (.str (S (c :: a))) = some (.val (.str (S a))) := by
  show giv ((S (c :: a)).length ≤ 1000000) (.str (cutS (S (c :: a)) (some 1) none)) = _
  rw [giv_pos (by rw [S_len]; simp only [List.length_cons]; omega)]
  congr 3
  refine TL.ext_tl ?_
  show ((c :: a).drop (HT.sIx (S (c :: a)).length 0 (some 1))).take ((S (c :: a)).length - HT.sIx (S (c :: a)).length 0 (some 1)) = a
  have e : HT.sIx (S (c :: a)).length 0 (some 1) = 1 := by
    rw [show (1 : Int) = ((1 : Nat) : Int) from rfl, HT.sIx_nat, S_len]
    simp only [List.length_cons]; omega
  rw [e, S_len]
  simp
theorem cutA_S (a : List Nat) (h : a.length ≤ 1000) : gSl (some 0) (some 1000) (.str (S a)) = some (.val (.str (S a))) := by
  show giv ((S a).length ≤ 1000000) (.str (cutS (S a) (some 0) (some 1000))) = _
  rw [giv_pos (by rw [S_len]; omega)]
  congr 3
  refine TL.ext_tl ?_
  show (a.drop (HT.sIx (S a).length 0 (some 0))).take (HT.sIx (S a).length (S a).length (some 1000) - HT.sIx (S a).length 0 (some 0)) = a
  have e : HT.sIx (S a).length 0 (some 0) = 0 := by
    rw [show (0 : Int) = ((0 : Nat) : Int) from rfl, HT.sIx_nat]; omega
  have e2 : HT.sIx (S a).length (S a).length (some 1000) = a.length := by
    rw [show (1000 : Int) = ((1000 : Nat) : Int) from rfl, HT.sIx_nat, S_len]; omega
  rw [e, e2]
  simp
theorem ix0_S (c : Nat) (a : List Nat) (h : a.length < 1000000) : gIx (.str (S (c :: a))) (.int 0) = some (.val (.str (S [c]))) :=
  gIx_str (by rw [S_len]; simp only [List.length_cons]; omega) (atI_nn (Int.le_refl 0) rfl)
theorem numL_head : ∀ n : Nat, 0 < n → (numL n).head? ≠ some 48 := by
  intro n
  induction n using Nat.strongRecOn with
  | ind n ih =>
    intro h
    by_cases h10 : n < 10
    · rw [TL.numL_lt h10]
      simp; omega
    · rw [TL.numL_step (by omega)]
      have := ih (n / 10) (by omega) (by omega)
      cases hn : numL (n / 10) with
      | nil => exact absurd hn (TL.numL_ne _)
      | cons c r => rw [hn] at this; simpa using this
theorem numL_600 {n : Nat} (h : n < 2 ^ 1900) : (numL n).length ≤ 600 :=
  TL.numL_len (k := 600) (by decide) (Nat.lt_trans h (by decide +kernel))
theorem intL_abs (n : Int) : intL n = (if n < 0 then [45] else []) ++ numL n.natAbs := by
  cases n with
  | ofNat m =>
    show intL ((m : Nat) : Int) = (if ((m : Nat) : Int) < 0 then [45] else []) ++ numL ((m : Nat) : Int).natAbs
    rw [if_neg (Int.not_lt.mpr (Int.natCast_nonneg m)), intL_nat, Int.natAbs_natCast]; rfl
  | negSucc m => rw [if_pos (Int.negSucc_lt_zero m), intL_neg]; rfl
theorem str_int {n : Int} (h : n.natAbs < 2 ^ 1900) : gStr (.int n) = some (.val (.str (dec n))) := giv_pos (by
  by_cases h0 : n.natAbs = 0
  · rw [h0]; decide
  · exact Nat.lt_trans ((Nat.log2_lt h0).mpr h) (by decide))
end PM
namespace PM
open PySem L2 GL DL NR
open TL (tl numL)
theorem rngS_one {l : Nat} (h0 : 0 < l) (h : l ≤ 1000) : rngS [.int 0, .int (l : Int), .int 1000] = .ok [.int 0] := by
  have e : Builtin.Range.rangeSize 0 (l : Int) 1000 = 1 := by
    unfold Builtin.Range.rangeSize
    rw [if_pos (by decide), if_pos (by omega)]
    omega
  show need (RgC 0 (l : Int) 1000 (Builtin.Range.rangeSize 0 (l : Int) 1000).toNat) (.ok (stepD 0 1000 (Builtin.Range.rangeSize 0 (l : Int) 1000).toNat)) = _
  rw [e]
  have ok : RgC 0 (l : Int) 1000 (1 : Int).toNat := by
    refine ⟨by decide, by decide, ?_, by rw [e]; rfl⟩
    unfold Builtin.Range.small
    rw [e]
    unfold Builtin.Range.rangeFitsLong
    simp
    omega
  rw [need_pos ok]
  rfl
theorem digit_in {d : Nat} (h : 48 ≤ d ∧ d ≤ 57) : gIn false (.str (S [d])) (.str (S [48, 49, 50, 51, 52, 53, 54, 55, 56, 57])) = some (.val (.bl true)) := by
  show some (Giv.val (D.bl (inS (S [d]) (S [48, 49, 50, 51, 52, 53, 54, 55, 56, 57])))) = _
  have e : inS (S [d]) (S [48, 49, 50, 51, 52, 53, 54, 55, 56, 57]) = decide (d ∈ [48, 49, 50, 51, 52, 53, 54, 55, 56, 57]) := SX.in_one _ d
  rw [e, decide_eq_true]
  simp only [List.mem_cons, List.not_mem_nil, or_false]
  omega
theorem all_true (xs : List D) : gAll (.lst (xs.map fun _ => D.bl true)) = some (.val (.bl true)) := by
  have e : (xs.map fun _ => D.bl true) = (xs.map fun _ => true).map D.bl := by rw [List.map_map]; rfl
  rw [e]
  show (blsD ((xs.map fun _ => true).map D.bl)).bind (fun bs => some (Giv.val (D.bl (bs.all id)))) = _
  rw [blsD_map]
  show some (Giv.val (D.bl ((xs.map fun _ => true).all id))) = _
  have : (xs.map fun _ => true).all id = true := by simp
  rw [this]
theorem res_rt {o : Out} {d : D} (h : o = .rt (.sh d)) : o.res = .ok (.sh d) := by rw [h]; rfl
theorem int_core (z : Str) (neg : Bool) {c : Nat} {r : List Nat} {k : Nat} (hL : numL k = c :: r) (hl : (c :: r).length ≤ 600) (sw : gSw (.str z) (.str (S [45])) = some (.val (.bl neg)))
    (cut : neg = true → gSl (some 1) none (.str z) = some (.val (.str (S (c :: r))))) (same : neg = false → z = S (c :: r)) (zero : c = 48 → (z == S [48]) = true) :
    M_integer_in [.str z] = .ok (.sh (.int (if neg = true then -(k : Int) else k))) := by
  have hd : ∀ d ∈ c :: r, 48 ≤ d ∧ d ≤ 57 := fun d h => TL.numL_digits k d (by rw [hL]; exact h)
  have tr : truth (.str (S (c :: r))) = .ok true := by
    show need ((S (c :: r)).length ≤ 1000000) (.ok (((S (c :: r)).length : Int) != 0)) = _
    rw [need_pos (by rw [S_len]; omega), S_len]
    have : (((c :: r).length : Int) != 0) = true := by simp; omega
    rw [this]
  have ix := ix0_S c r (by simp only [List.length_cons] at hl; omega)
  have cm : ∀ s0 s2 s3 s4 s5, mComp [5] (iStrr (eVar 1)) (bName 5) bYes C_integer_in_1 [s0, .sh (.str (S (c :: r))), s2, s3, s4, s5] = .ok (((c :: r).map fun d => D.str (S [d])).map fun _ => D.bl true) := fun s0 s2 s3 s4 s5 => by
    have := compM_map (g := bName 5) (m := C_integer_in_1) (Γ := [s0, .sh (.str (S (c :: r))), s2, s3, s4, .un]) (fun _ => D.bl true) ((c :: r).map fun d => D.str (S [d])) (fun x hx => by
      obtain ⟨d, hd', rfl⟩ := List.mem_map.mp hx
      refine ⟨[s0, .sh (.str (S (c :: r))), s2, s3, s4, .sh (.str (S [d]))], rfl, ?_⟩
      have di := digit_in (hd d hd')
      unfold C_integer_in_1
      rw [lit_digits]
      simp [di])
    have st : strL (.str (S (c :: r))) = .ok ((c :: r).map fun d => D.str (S [d])) := rfl
    have lx : ((c :: r).map (fun d => D.str (S [d]))).length < 1000000 := by rw [List.length_map]; omega
    generalize (c :: r).map (fun d => D.str (S [d])) = xs at *
    simp [comp_eq, iStrr, st, wipeE, this, lx]
  have al := all_true ((c :: r).map fun d => D.str (S [d]))
  have hlen : gLen (.str (S (c :: r))) = some (.val (.int ((c :: r).length : Int))) := by
    show giv ((S (c :: r)).length ≤ 1000000) (.int ((S (c :: r)).length : Int)) = _
    rw [giv_pos (by rw [S_len]; omega), S_len]
  have pw : M_power_of [.int 10, .int ((c :: r).length : Int)] = .ok (.sh (.int (10 ^ (c :: r).length))) := power_of_eq (by decide) (by decide) (Nat.lt_of_le_of_lt hl (by decide))
  have it : PySem.intText? (S (c :: r)) = some (k : Int) := by
    have := TL.int_num (n := k) (by rw [hL]; omega)
    rw [SX.num_S k, hL] at this
    exact this
  have gi : gIntS (.str (S (c :: r))) = some (.val (.int (k : Int))) := by
    show (match PySem.intText? (S (c :: r)) with | some n => giv ((S (c :: r)).length ≤ 640) (.int n) | none => none) = _
    rw [it]
    exact giv_pos (by rw [S_len]; omega)
  have cutA := cutA_S (c :: r) (by omega)
  have rg := rngS_one (l := (c :: r).length) (by simp) (by omega)
  have mu : gMul (.int 0) (.int (10 ^ (c :: r).length)) = some (.val (.int 0)) := by
    have := mul_ok (i := 0) (j := 10 ^ (c :: r).length) (a := 4) (b := 3000) (by decide) (by
      rw [Int.natAbs_pow, show (10 : Int).natAbs = 10 from rfl]
      exact Nat.lt_of_le_of_lt (Nat.pow_le_pow_right (by decide) hl) (show 10 ^ 600 < 2 ^ 3000 by decide +kernel)) (by decide) (by decide) (by decide)
    rw [Int.zero_mul] at this
    exact this
  have nz : ((toB ((toR (gIx (.str (S (c :: r))) (.int 0))).bind fun x => toR (gEq x (.str (S [48]))))).bind fun b => if b = true then Res.ok (!z == S [48]) else Res.ok false) = .ok false := by
    by_cases h0 : c = 48
    · have := zero h0
      simp [ix, this]
    · have : (S [c] == S [48]) = false := by rw [S_beq]; simp [h0]
      simp [ix, this]
  generalize hN : (10 : Int) ^ (c :: r).length = P10 at *
  generalize hn : ((c :: r).length : Int) = LL at *
  generalize S (c :: r) = SL at *
  generalize (((c :: r).map fun d => D.str (S [d])).map fun _ => D.bl true) = BL at *
  unfold M_integer_in
  rw [body_eq, lit_minus, lit_zero]
  refine res_rt ?_
  refine seq_step (Γ' := [.sh (.str z), .sh (.str SL), .un, .un, .un, .un]) (by cases neg with
    | true => have := cut rfl; simp [eM1, sw, this]
    | false => obtain rfl := same rfl; simp [eM1, sw]) ?_
  refine seq_step (Γ' := [.sh (.str z), .sh (.str SL), .un, .un, .un, .un]) (by simp [tr, cm, al]) ?_
  refine seq_step (Γ' := [.sh (.str z), .sh (.str SL), .un, .un, .un, .un]) (by simp [nz]) ?_
  refine seq_step (Γ' := [.sh (.str z), .sh (.str SL), .sh (.int 0), .un, .un, .un]) (by simp) ?_
  have turn : B_integer_in_1 [.sh (.str z), .sh (.str SL), .sh (.int 0), .sh (.int 0), .un, .un] = .nx [.sh (.str z), .sh (.str SL), .sh (.int k), .sh (.int 0), .sh (.str SL), .un] := by
    unfold B_integer_in_1
    refine seq_step (Γ' := [.sh (.str z), .sh (.str SL), .sh (.int 0), .sh (.int 0), .sh (.str SL), .un]) ?_ ?_
    · simp [cutA]
    · simp [hlen, pw, mu, gi]
  refine seq_step (Γ' := [.sh (.str z), .sh (.str SL), .sh (.int k), .sh (.int 0), .sh (.str SL), .un]) ?_ ?_
  · have e0 : iRS (eCons (eC (.int 0)) (eCons (eUn gLen (eVar 1)) (eCons (eC (.int 1000)) eNil))) [.sh (.str z), .sh (.str SL), .sh (.int 0), .un, .un, .un] = .ok [.int 0] := by
      have ev : eCons (eC (.int 0)) (eCons (eUn gLen (eVar 1)) (eCons (eC (.int 1000)) eNil)) [.sh (.str z), .sh (.str SL), .sh (.int 0), .un, .un, .un] = .ok [.int 0, .int LL, .int 1000] := by simp [hlen]
      unfold iRS
      rw [ev, bind_ok]
      exact rg
    unfold mFor
    rw [e0]
    rw [mTo_ok]
    rw [forM_cons _ _ _ _ _ [.sh (.str z), .sh (.str SL), .sh (.int 0), .sh (.int 0), .un, .un] rfl, turn]
    rfl
  cases neg <;> simp [eM1, sw]
theorem int_in {n : Int} (h : n.natAbs < 2 ^ 1900) : M_integer_in [.str (dec n)] = .ok (.sh (.int n)) := by
  obtain ⟨k, hk⟩ : ∃ k : Nat, k = n.natAbs := ⟨_, rfl⟩
  have hl := numL_600 h
  rw [← hk] at hl
  cases hL : numL k with
  | nil => exact absurd hL (TL.numL_ne k)
  | cons c r =>
    rw [hL] at hl
    have hd := TL.numL_digits k c (by rw [hL]; exact List.mem_cons_self)
    have e := intL_abs n
    rw [← hk, hL] at e
    have ds := dec_S n
    rw [e] at ds
    have z48 : c = 48 → k = 0 := fun hc => by
      rcases Nat.eq_zero_or_pos k with h0 | h0
      · exact h0
      · exact absurd (by rw [hL, hc]; rfl) (numL_head k h0)
    by_cases hn : n < 0
    · rw [if_pos hn] at ds
      have sw := sw_S ([45] ++ c :: r)
      rw [← ds] at sw
      have := int_core (dec n) true hL hl sw (fun _ => by rw [ds]; exact cut1_S 45 (c :: r) (by omega)) (fun z => by cases z) (fun hc => by
        have := z48 hc
        omega)
      rw [this, if_pos rfl]
      congr 3
      omega
    · rw [if_neg hn] at ds
      have sw := sw_S ([] ++ c :: r)
      rw [← ds] at sw
      have hb : ((([] : List Nat) ++ c :: r).head? == some 45) = false := by
        show (some c == some 45) = false
        have : c ≠ 45 := by omega
        simp [this]
      rw [hb] at sw
      have := int_core (dec n) false hL hl sw (fun z => by cases z) (fun _ => ds) (fun hc => by
        have h0 := z48 hc
        subst h0
        have e0 : numL 0 = [48] := TL.numL_lt (by decide)
        rw [e0] at hL
        rw [ds, ← hL, S_beq]
        rfl)
      rw [this, if_neg Bool.false_ne_true]
      congr 3
      omega
end PM
namespace PM
open PySem L2 GL DL NR
open TL (tl numL)
theorem lit_e : ("e" : Str) = S [101] := TL.ext_tl (by rw [tl_S]; decide +kernel)
theorem lit_at : ("@" : Str) = S [64] := TL.ext_tl (by rw [tl_S]; decide +kernel)
theorem lit_col : (":" : Str) = S [58] := TL.ext_tl (by rw [tl_S]; decide +kernel)
theorem dec_len {n : Int} (h : n.natAbs < 2 ^ 1900) : (intL n).length ≤ 601 := by
  rw [intL_abs, List.length_append]
  have := numL_600 h
  split <;> simp <;> omega
/-- a number's text -/
def numT (n e : Int) : List Nat := if e = 0 then intL n else intL n ++ 101 :: intL e
theorem numT_len {n e : Int} (hn : n.natAbs < 2 ^ 1900) (he : e.natAbs < 2 ^ 1900) : (numT n e).length ≤ 1203 := by
  have h1 := dec_len hn
  have h2 := dec_len he
  unfold numT
  split
  · omega
  · simp only [List.length_append, List.length_cons]; omega
theorem numT_free {k : Nat} (hk : k ≠ 45 ∧ k ≠ 101 ∧ (k < 48 ∨ 57 < k)) (n e : Int) : k ∉ numT n e := fun hm => by
  have f1 := intL_free (k := k) ⟨hk.1, hk.2.2⟩ n
  have f2 := intL_free (k := k) ⟨hk.1, hk.2.2⟩ e
  unfold numT at hm
  split at hm
  · exact f1 hm
  · rcases List.mem_append.mp hm with h | h
    · exact f1 h
    · rcases List.mem_cons.mp h with h | h
      · exact hk.2.1 h
      · exact f2 h
theorem int_in' {n : Int} (h : n.natAbs < 2 ^ 1900) : M_integer_in [.str (S (intL n))] = .ok (.sh (.int n)) := by rw [← dec_S]; exact int_in h
theorem str_int' {n : Int} (h : n.natAbs < 2 ^ 1900) : gStr (.int n) = some (.val (.str (S (intL n)))) := by rw [str_int h, dec_S]
theorem add_S {a b : List Nat} (h : a.length + b.length ≤ 1000000) : gAdd (.str (S a)) (.str (S b)) = some (.val (.str (S (a ++ b)))) := by
  have : gAdd (.str (S a)) (.str (S b)) = some (.val (.str (S a ++ S b))) := giv_pos (by rw [S_len, S_len]; exact h)
  rw [this, S_cat]
theorem part_S (a b : List Nat) {k : Nat} (hk : k ∉ a) (hk2 : k < 256) (hl : a.length + b.length ≤ 100000) : gPart (.str (S (a ++ k :: b))) (.str (S [k])) = some (.newT [.str (S a), .str (S [k]), .str (S b)]) := by
  have e : Txt.partition (S (a ++ k :: b)) (S [k]) = (S a, S [k], S b) := by
    have := TL.partition_app (y := S [k]) (s := k) (S := []) rfl (a := S a) (b := S b) (by rw [tl_S]; exact hk)
    rw [S_cat, S_cat, List.append_assoc] at this
    exact this
  show (if ((S [k]).length == 0) = false ∧ (S (a ++ k :: b)).length ≤ 1000000 then some (Giv.newT [.str (Txt.partition (S (a ++ k :: b)) (S [k])).1, .str (Txt.partition (S (a ++ k :: b)) (S [k])).2.1, .str (Txt.partition (S (a ++ k :: b)) (S [k])).2.2]) else none) = _
  rw [if_pos ⟨by rw [S_len]; rfl, by rw [S_len]; simp only [List.length_append, List.length_cons]; omega⟩, e]
theorem part_none_S (a : List Nat) {k : Nat} (hk : k ∉ a) (hl : a.length ≤ 100000) : gPart (.str (S a)) (.str (S [k])) = some (.newT [.str (S a), .str (S []), .str (S [])]) := by
  have e : Txt.partition (S a) (S [k]) = (S a, S [], S []) := TL.partition_none (y := S [k]) (s := k) (S := []) rfl (by rw [tl_S]; exact hk)
  show (if ((S [k]).length == 0) = false ∧ (S a).length ≤ 1000000 then some (Giv.newT [.str (Txt.partition (S a) (S [k])).1, .str (Txt.partition (S a) (S [k])).2.1, .str (Txt.partition (S a) (S [k])).2.2]) else none) = _
  rw [if_pos ⟨by rw [S_len]; rfl, by rw [S_len]; omega⟩, e]
theorem truth_S {a : List Nat} (h : a.length ≤ 100000) : truth (.str (S a)) = .ok (!a.isEmpty) := by
  show need ((S a).length ≤ 1000000) (.ok (((S a).length : Int) != 0)) = _
  rw [need_pos (by rw [S_len]; omega), S_len]
  cases a with
  | nil => rfl
  | cons c r =>
    have : (((c :: r).length : Int) != 0) = true := by simp; omega
    rw [this]; rfl
section
variable {b n e : Int} (hb : 0 < b) (hn : n.natAbs < 2 ^ 1900) (he : e.natAbs < 2 ^ 1900) (ok : isNum b (.tup [.int n, .int e]) = true)
include hb hn he ok
theorem num_in : M_number_in [.int b, .str (S (numT n e))] = .ok (.sh (.tup [.int n, .int e])) := by
  have i1 := int_in' hn
  have i2 := int_in' he
  have l1 := dec_len hn
  have l2 := dec_len he
  have nm := is_number_eq hb (d := .tup [.int n, .int e]) rfl
  rw [ok] at nm
  unfold M_number_in
  rw [body_eq, lit_e]
  by_cases h0 : e = 0
  · subst h0
    have pt := part_none_S (intL n) (k := 101) (intL_free (by decide) n) (by omega)
    have nt : numT n 0 = intL n := if_pos rfl
    have t0 := truth_S (a := []) (by decide)
    rw [nt]
    simp [eM1, pt, t0, i1, nm]
  · have pt := part_S (intL n) (intL e) (k := 101) (intL_free (by decide) n) (by decide) (by omega)
    have nt : numT n e = intL n ++ 101 :: intL e := if_neg h0
    have t1 := truth_S (a := [101]) (by decide)
    rw [nt]
    simp [eM1, pt, t1, i1, i2, nm, h0]
end
end PM
namespace PM
open PySem L2 GL DL NR
open TL (tl numL)
/-- m: the mark -/
def stT (m : Nat) (n e p : Int) : List Nat := numT n e ++ m :: intL p
section
variable {n e p : Int} (hn : n.natAbs < 2 ^ 1900) (he : e.natAbs < 2 ^ 1900) (hp : p.natAbs < 2 ^ 1900)
include hn he hp
variable {b : Int} (hb : 0 < b) (ok : isPair b (.tup [.tup [.int n, .int e], .int p]) = true) (ok1 : isNum b (.tup [.int n, .int e]) = true)
include hb ok ok1
theorem parse_pair {m : Nat} (hm : m ≠ 45 ∧ m ≠ 101 ∧ (m < 48 ∨ 57 < m)) (hm2 : m < 256) : M_parse_pair [.int b, .str (S (stT m n e p)), .str (S [m])] = .ok (.sh (.tup [.tup [.int n, .int e], .int p])) := by
  have i1 := num_in hb hn he ok1
  have i2 := int_in' hp
  have l1 := numT_len hn he
  have l2 := dec_len hp
  have pt := part_S (numT n e) (intL p) (numT_free hm n e) hm2 (by omega)
  have pr := is_pair_eq hb (d := .tup [.tup [.int n, .int e], .int p]) rfl
  rw [ok] at pr
  have pi : M_pair_in [.int b, .str (S (stT m n e p)), .str (S [m])] = .ok (.sh (.tup [.tup [.int n, .int e], .int p])) := by
    unfold stT M_pair_in
    rw [body_eq]
    generalize S (numT n e ++ m :: intL p) = Z at *
    generalize S [m] = M at *
    generalize S (numT n e) = A at *
    generalize S (intL p) = B at *
    simp [eM1, pt, i1, i2, pr]
  have ni : DL.isNon (.tup [.tup [.int n, .int e], .int p]) = false := rfl
  unfold M_parse_pair
  rw [body_eq]
  generalize S (stT m n e p) = Z at *
  simp [pi, ni]
theorem parse_state : M_parse_state [.int b, .str (S (stT 64 n e p))] = .ok (.sh (.tup [.tup [.int n, .int e], .int p])) := by
  have h := parse_pair hn he hp hb ok ok1 (m := 64) (by decide) (by decide)
  unfold M_parse_state
  rw [body_eq, lit_at]
  simp [h]
theorem parse_effect : M_parse_effect [.int b, .str (S (stT 58 n e p))] = .ok (.sh (.tup [.tup [.int n, .int e], .int p])) := by
  have h := parse_pair hn he hp hb ok ok1 (m := 58) (by decide) (by decide)
  unfold M_parse_effect
  rw [body_eq, lit_col]
  simp [h]
end
end PM
namespace PM
open PySem L2 GL DL NR
open TL (tl numL)
def oc : Op → Nat
  | .R => 82 | .L => 76 | .A => 65 | .S => 83
theorem op_S (o : Op) : o.s = S [oc o] := by cases o <;> exact TL.ext_tl (by rw [tl_S]; decide +kernel)
theorem lit_sp : (" " : Str) = S [32] := TL.ext_tl (by rw [tl_S]; decide +kernel)
def runT (r : Run) : List Nat := oc r.1 :: (if r.2 = 1 then [] else intL r.2)
def wordsT (rs : List Run) : List Str := rs.map fun r => S (runT r)
theorem runT_len {r : Run} (h : r.2.natAbs < 2 ^ 1900) : (runT r).length ≤ 602 := by
  have := dec_len h
  unfold runT
  split <;> simp only [List.length_cons, List.length_nil] <;> omega
theorem words_sum {rs : List Run} (h : ∀ r ∈ rs, r.2.natAbs < 2 ^ 1900) : ((wordsT rs).map (fun y : Str => y.length)).sum ≤ 602 * rs.length := by
  induction rs with
  | nil => exact Nat.le_refl _
  | cons r q ih =>
    have h1 := runT_len (h r List.mem_cons_self)
    have h2 := ih fun x hx => h x (List.mem_cons_of_mem _ hx)
    show (S (runT r)).length + ((wordsT q).map (fun y : Str => y.length)).sum ≤ _
    rw [S_len]
    simp only [List.length_cons]
    omega
theorem join_words {rs : List Run} (h : ∀ r ∈ rs, r.2.natAbs < 2 ^ 1900) (hl : rs.length ≤ 100) : gJoin (.str (S [32])) (.lst ((wordsT rs).map .str)) = some (.val (.str (Txt.join (S [32]) (wordsT rs)))) := by
  show (match strsD ((wordsT rs).map D.str) with | some ys => giv ((ys.map (fun y : Str => y.length)).sum + ys.length * (S [32]).length ≤ 1000000) (.str (Txt.join (S [32]) ys)) | none => none) = _
  rw [strsD_map]
  refine giv_pos ?_
  have := words_sum h
  have e : (wordsT rs).length = rs.length := by unfold wordsT; rw [List.length_map]
  rw [S_len, e]
  simp only [List.length_cons, List.length_nil]
  omega
end PM
namespace PM
open PySem L2 GL DL NR
structure OwnR (rs : List Run) (k : Nat) : Prop where
  alt : Alt none rs
  len : rs.length ≤ k
  cnt : ∀ r ∈ rs, 1 ≤ r.2 ∧ r.2 ≤ 200000
def inRL : Op → Bool
  | .R | .L => true
  | _ => false
theorem in_RL (o : Op) : gIn false (.str o.s) (.str "RL") = some (.val (.bl (inRL o))) := by
  rw [gIn_str]
  have : inS o.s "RL" = inRL o := by cases o <;> decide +kernel
  rw [this]
/-- where the new run goes -/
theorem runs_put {s0 s1 s3 s4 : DL.Slot} {rs : List Run} {k : Nat} (hr : OwnR rs k) (hk : k ≤ 1000) {o : Op} {c : Int} (hc : 1 ≤ c ∧ c ≤ 200000) : ∃ rs', (mIf (bOr (bB (eOp gEq (eVarO 2) (eAll (fLst eNil)))) (bB (eOp gNe (eOp gIx (eOp gIx (eVarO 2) (eUn gNeg (eC (.int 1)))) (eC (.int 0))) (eVar 4))))
  (mApp 2 (eTup (eCons (eVar 4) (eCons (eVar 5) eNil)))) sNx) [s0, s1, .own (rs.map runD), s3, .sh (.str o.s), .sh (.int c)] = .nx [s0, s1, .own (rs'.map runD), s3, .sh (.str o.s), .sh (.int c)] ∧ OwnR rs' (k + 1) := by
  have hl := hr.len
  rcases snoc_or rs with rfl | ⟨t, ⟨y, z⟩, rfl⟩
  · refine ⟨[(o, c)], ?_, ⟨⟨by simp, hc.1, trivial⟩, by simp, fun r hr => by rw [List.mem_singleton.mp hr]; exact hc⟩⟩
    have e0 : gEq (.lst []) (.lst []) = some (.val (.bl true)) := rfl
    simp [runD, e0]
  · obtain ⟨h1, h2, h3⟩ := alt_split t none y z hr.alt
    have gl : gIx (.lst (t.map runD ++ [runD (y, z)])) (.int (-1)) = some (.val (runD (y, z))) := gIx_last _ _
    have e2 : gIx (runD (y, z)) (.int 0) = some (.val (.str y.s)) := tup_ix0 _ _
    have en : gEq (.lst (t.map runD ++ [runD (y, z)])) (.lst []) = some (.val (.bl false)) := by
      show some (Giv.val (.bl _)) = _
      simp
    have ll : (t.map runD ++ [runD (y, z)]).length < 1000000 := by simp at hl ⊢; omega
    have ne := ne_last o y
    by_cases hy : y = o
    · rw [decide_eq_true hy] at ne
      refine ⟨t ++ [(y, z)], ?_, hr.alt, by omega, hr.cnt⟩
      rw [List.map_append, List.map_cons, List.map_nil]
      generalize t.map runD ++ [runD (y, z)] = L at *
      simp [gl, e2, en, ne, -gNe_str]
    · rw [decide_eq_false hy] at ne
      refine ⟨t ++ [(y, z)] ++ [(o, c)], ?_, alt_app _ _ _ _ hr.alt (by rw [lastOp_app]; intro w; exact hy (Option.some.inj w)) hc.1, by simp at hl ⊢; omega, fun r hr' => ?_⟩
      · rw [List.map_append, List.map_append, List.map_cons, List.map_nil, List.map_cons, List.map_nil]
        have fin : D.tup [.str o.s, .int c] = runD (o, c) := rfl
        generalize hL : t.map runD ++ [runD (y, z)] = L at *
        simp [gl, e2, en, ne, ll, fin, -gNe_str]
        rw [← hL]; simp
      · rcases List.mem_append.mp hr' with h | h
        · exact hr.cnt r h
        · rw [List.mem_singleton.mp h]; exact hc
theorem law_runs_eq {ds : List Int} {n m : Nat} (hd : Digs 420 n ds) (hn : 2 * m ≤ n) (hm8 : m ≤ 100) : ∃ rs, M_law_runs [.lst (ds.map .int), .int (m : Int)] = .ok (.own (rs.map runD)) ∧ OwnR rs m := by
  have at_ : ∀ i : Nat, i < m → gIx (.lst (ds.map .int)) (.int (2 * (i : Int))) = some (.val (.int (dg ds (2 * i)))) ∧ gIx (.lst (ds.map .int)) (.int (2 * (i : Int) + 1)) = some (.val (.int (dg ds (2 * i + 1)))) ∧ 0 ≤ dg ds (2 * i) ∧ 0 ≤ dg ds (2 * i + 1) ∧ dg ds (2 * i + 1) < 420 := fun i hi => by
    have a1 := hd.at_ (k := 2 * i) (by omega)
    have a2 := hd.at_ (k := 2 * i + 1) (by omega)
    rw [show ((2 * i : Nat) : Int) = 2 * (i : Int) by omega] at a1
    rw [show ((2 * i + 1 : Nat) : Int) = 2 * (i : Int) + 1 by omega] at a2
    exact ⟨a1.1, a2.1, a1.2.1, a2.2.1, a2.2.2⟩
  generalize ds.map D.int = dl at at_ ⊢
  obtain ⟨Γ', e, rs, x3, x4, x5, rfl, hr⟩ := forM_inv (g := bName 3) (b := B_law_runs_1) (fun i Γ => ∃ rs x3 x4 x5, Γ = [.sh (.lst dl), .sh (.int (m : Int)), .own (rs.map runD), x3, x4, x5] ∧ OwnR rs i)
    (rangeD 0 m) 0 [.sh (.lst dl), .sh (.int (m : Int)), .own [], .un, .un, .un] ⟨[], _, _, _, rfl, trivial, Nat.le_refl _, fun r hr => by cases hr⟩ (by
      rintro i x Γ hx ⟨rs, x3, x4, x5, rfl, hr⟩
      have hi : i < m := by
        have := (List.getElem?_eq_some_iff.mp hx).1
        rwa [rangeD_len] at this
      have hx2 : x = .int (i : Int) := by
        rw [rangeD_eq, List.getElem?_map, List.getElem?_range hi] at hx
        cases hx; rfl
      subst hx2
      rw [Nat.zero_add] at hr ⊢
      obtain ⟨a1, a2, p1, p2, p3⟩ := at_ i hi
      generalize dg ds (2 * i) = u at *
      generalize dg ds (2 * i + 1) = v at *
      obtain ⟨o, ho⟩ := pick_letter p1
      have m2 : gMul (.int 2) (.int (i : Int)) = some (.val (.int (2 * (i : Int)))) := mul_ok (a := 2) (b := 20) (by decide) (by omega) (by decide) (by decide) (by decide)
      have m4 : gMul (.int 420) (.int v) = some (.val (.int (420 * v))) := mul_ok (a := 10) (b := 20) (by decide) (by omega) (by decide) (by decide) (by decide)
      obtain ⟨c, hc, c0⟩ := pick_int (xs := [1, 1, 2, 3, 1 + v % 12, 420 * v + 5]) (P := fun z => 1 ≤ z ∧ z ≤ 200000) (fun z hz => by
        simp only [List.mem_cons, List.not_mem_nil, or_false] at hz
        rcases hz with rfl | rfl | rfl | rfl | rfl | rfl <;> omega) (n := 6) rfl (by decide) v
      have hc : gIx (.lst [.int 1, .int 1, .int 2, .int 3, .int (1 + v % 12), .int (420 * v + 5)]) (.int (v % 6)) = some (.val (.int c)) := hc
      obtain ⟨c', c1, s3⟩ : ∃ c', (1 ≤ c' ∧ c' ≤ 200000) ∧ (mIf (bB (eOp (gIn false) (eVar 4) (eC (.str "RL")))) (mSet 5 (eOp gAdd (eC (.int 1)) (eOp gMod (eVar 5) (eC (.int 4))))) sNx) [.sh (.lst dl), .sh (.int (m : Int)), .own (rs.map runD), .sh (.int (i : Int)), .sh (.str o.s), .sh (.int c)] = .nx [.sh (.lst dl), .sh (.int (m : Int)), .own (rs.map runD), .sh (.int (i : Int)), .sh (.str o.s), .sh (.int c')] := by
        have ir := in_RL o
        by_cases h : inRL o = true
        · rw [h] at ir
          exact ⟨1 + c % 4, by omega, by simp [ir]⟩
        · rw [Bool.not_eq_true] at h
          rw [h] at ir
          exact ⟨c, c0, by simp [ir]⟩
      obtain ⟨rs', s4, hr'⟩ := runs_put (s0 := .sh (.lst dl)) (s1 := .sh (.int (m : Int))) (s3 := .sh (.int (i : Int))) (s4 := .un) hr (by omega) (o := o) c1
      refine ⟨[.sh (.lst dl), .sh (.int (m : Int)), .own (rs.map runD), .sh (.int (i : Int)), x4, x5], _, rfl, .inl ?_, rs', .sh (.int (i : Int)), .sh (.str o.s), .sh (.int c'), rfl, hr'⟩
      unfold B_law_runs_1
      refine seq_step (Γ' := [.sh (.lst dl), .sh (.int (m : Int)), .own (rs.map runD), .sh (.int (i : Int)), .sh (.str o.s), x5]) (by simp [m2, a1, ho]) ?_
      refine seq_step (Γ' := [.sh (.lst dl), .sh (.int (m : Int)), .own (rs.map runD), .sh (.int (i : Int)), .sh (.str o.s), .sh (.int c)]) (by simp [m2, m4, a2, hc]) ?_
      exact seq_step s3 s4)
  rw [Nat.zero_add, rangeD_len] at hr
  have rg : (-1000000 : Int) ≤ (m : Int) ∧ (m : Int) ≤ 1000000 := by omega
  refine ⟨rs, ?_, hr⟩
  unfold M_law_runs
  rw [body_eq]
  simp [rg, e]
end PM
namespace PM
open PySem L2 GL DL NR
open TL (tl numL)
theorem lay_S {a : List Nat} (hc : ∀ c ∈ a, c < 200) : (PyData.str (S a)).canLay0 = true := by
  simp only [PyData.canLay0, PyData.strOk]
  rw [← Array.all_toList]
  exact List.all_eq_true.mpr fun c h => decide_eq_true (by have := hc c h; omega)
theorem intL_lt {i : Int} : ∀ c ∈ intL i, c < 200 := fun c h => by
  by_cases hc : c < 200
  · exact hc
  · exact absurd h (intL_free (by omega) i)
end PM
namespace PM
open PySem L2 GL DL NR
open TL (tl numL)
open NumText (digitsVal AllDigits)
def isDg (c : Nat) : Bool := decide (c ∈ [48, 49, 50, 51, 52, 53, 54, 55, 56, 57])
theorem isDg_iff {c : Nat} : isDg c = true ↔ 48 ≤ c ∧ c ≤ 57 := by
  unfold isDg
  rw [decide_eq_true_iff]
  simp only [List.mem_cons, List.not_mem_nil, or_false]
  omega
theorem dig_in (c : Nat) (b : Bool) : gIn b (.str (S [c])) (.str (S [48, 49, 50, 51, 52, 53, 54, 55, 56, 57])) = some (.val (.bl (if b = true then !isDg c else isDg c))) := by
  have e : inS (S [c]) (S [48, 49, 50, 51, 52, 53, 54, 55, 56, 57]) = isDg c := SX.in_one _ c
  cases b
  · show some (Giv.val (D.bl (inS (S [c]) (S [48, 49, 50, 51, 52, 53, 54, 55, 56, 57])))) = _
    rw [e]; rfl
  · show some (Giv.val (D.bl (!inS (S [c]) (S [48, 49, 50, 51, 52, 53, 54, 55, 56, 57])))) = _
    rw [e]; rfl
theorem all_val (d : List Nat) : gAll (.lst (d.map fun c => D.bl (isDg c))) = some (.val (.bl (d.all isDg))) := by
  have e : (d.map fun c => D.bl (isDg c)) = (d.map isDg).map D.bl := by rw [List.map_map]; rfl
  rw [e]
  show (blsD ((d.map isDg).map D.bl)).bind (fun bs => some (Giv.val (D.bl (bs.all id)))) = _
  rw [blsD_map]
  show some (Giv.val (D.bl ((d.map isDg).all id))) = _
  rw [List.all_map]; rfl
/-- the digits, past the sign -/
def digsOf (l : List Nat) : List Nat := if (l.head? == some 45) = true then l.tail else l
theorem digs_len (l : List Nat) : (digsOf l).length ≤ l.length := by
  unfold digsOf
  split <;> simp
def oI : Option Int → D
  | none => .non
  | some i => .int i
theorem tr_S {d : List Nat} (h : d.length ≤ 1000) : truth (.str (S d)) = .ok (!d.isEmpty) := by
  show need ((S d).length ≤ 1000000) (.ok (((S d).length : Int) != 0)) = _
  rw [need_pos (by rw [S_len]; omega), S_len]
  cases d with
  | nil => rfl
  | cons c r =>
    have : (((c :: r).length : Int) != 0) = true := by simp; omega
    rw [this]; rfl
theorem cm_prog {d : List Nat} (h : d.length ≤ 1000) (s0 s2 s3 s4 s5 : DL.Slot) : mComp [5] (iStrr (eVar 1)) (bName 5) bYes C_integer_in_1 [s0, .sh (.str (S d)), s2, s3, s4, s5] = .ok (d.map fun c => D.bl (isDg c)) := by
  have := compM_map (g := bName 5) (m := C_integer_in_1) (Γ := [s0, .sh (.str (S d)), s2, s3, s4, .un]) (fun x => match x with | .str z => .bl (isDg (z.cps.toList.headD 0)) | x => x) (d.map fun c => D.str (S [c])) (fun x hx => by
    obtain ⟨c, hd', rfl⟩ := List.mem_map.mp hx
    refine ⟨[s0, .sh (.str (S d)), s2, s3, s4, .sh (.str (S [c]))], rfl, ?_⟩
    have di := dig_in c false
    unfold C_integer_in_1
    rw [lit_digits]
    simp [di])
  have e : (d.map fun c => D.str (S [c])).map (fun x => match x with | .str z => D.bl (isDg (z.cps.toList.headD 0)) | x => x) = d.map fun c => D.bl (isDg c) := by
    rw [List.map_map]; rfl
  rw [e] at this
  have st : strL (.str (S d)) = .ok (d.map fun c => D.str (S [c])) := rfl
  have lx : (d.map (fun c => D.str (S [c]))).length < 1000000 := by rw [List.length_map]; omega
  generalize d.map (fun c => D.str (S [c])) = xs at *
  simp [comp_eq, iStrr, st, wipeE, this, lx]
theorem cm_law {d : List Nat} (h : d.length ≤ 1000) (s0 s2 : DL.Slot) : mComp [2] (iStrr (eVar 1)) (bName 2) (bB (eOp (gIn true) (eVar 2) (eC (.str "0123456789")))) (eVar 2) [s0, .sh (.str (S d)), s2] = .ok ((d.filter fun c => !isDg c).map fun c => D.str (S [c])) := by
  have key : ∀ q : List Nat, compM (bName 2) (bB (eOp (gIn true) (eVar 2) (eC (.str "0123456789")))) (eVar 2) [s0, .sh (.str (S d)), .un] (q.map fun c => D.str (S [c])) = .ok ((q.filter fun c => !isDg c).map fun c => D.str (S [c])) := by
    intro q
    induction q with
    | nil => rfl
    | cons c r ih =>
      have di := dig_in c true
      rw [List.map_cons, compM]
      rw [lit_digits] at *
      cases hc : isDg c
      · rw [hc] at di
        rw [List.filter_cons_of_pos (by rw [hc]; rfl)]
        simp [di, ih]
      · rw [hc] at di
        rw [List.filter_cons_of_neg (by rw [hc]; decide)]
        simp [di, ih]
  have := key d
  have st : strL (.str (S d)) = .ok (d.map fun c => D.str (S [c])) := rfl
  have lx : (d.map (fun c => D.str (S [c]))).length < 1000000 := by rw [List.length_map]; omega
  generalize (d.filter fun c => !isDg c).map (fun c => D.str (S [c])) = ys at *
  generalize d.map (fun c => D.str (S [c])) = xs at *
  simp [comp_eq, iStrr, st, wipeE, this, lx]
theorem fil_nil {d : List Nat} : ((d.filter fun c => !isDg c).map fun c => D.str (S [c])).isEmpty = d.all isDg := by
  induction d with
  | nil => rfl
  | cons c r ih =>
    cases hc : isDg c
    · rw [List.filter_cons_of_pos (by rw [hc]; rfl)]
      simp [hc]
    · rw [List.filter_cons_of_neg (by rw [hc]; decide), ih]
      simp [hc]
theorem dval_lt : ∀ (d : List Nat) (a : Nat), (∀ c ∈ d, c ≤ 57) → d.foldl (fun acc c => acc * 10 + (c - 48)) a < (a + 1) * 10 ^ d.length
  | [], a, _ => by simp
  | c :: r, a, h => by
    have hc := h c List.mem_cons_self
    refine Nat.lt_of_lt_of_le (dval_lt r (a * 10 + (c - 48)) fun x hx => h x (List.mem_cons_of_mem _ hx)) ?_
    rw [List.length_cons, Nat.pow_succ, Nat.mul_comm (10 ^ r.length) 10, ← Nat.mul_assoc]
    exact Nat.mul_le_mul_right _ (by omega)
theorem cut1_S' (l : List Nat) (h : l.length < 1000000) (h0 : (l.head? == some 45) = true) : gSl (some 1) none (.str (S l)) = some (.val (.str (S l.tail))) := by
  cases l with
  | nil => cases h0
  | cons c r => exact cut1_S c r (by simp only [List.length_cons] at h; omega)
theorem take1_S (l : List Nat) (h : l.length < 1000000) : gSl none (some 1) (.str (S l)) = some (.val (.str (S (l.take 1)))) := by
  cases l with
  | nil => rfl
  | cons c r =>
    show giv ((S (c :: r)).length ≤ 1000000) (.str (cutS (S (c :: r)) none (some 1))) = _
    rw [giv_pos (by rw [S_len]; omega)]
    congr 3
theorem take1_eq (l : List Nat) : (S (l.take 1) == S [45]) = (l.head? == some 45) := by
  rw [S_beq]
  cases l with
  | nil => rfl
  | cons c r => simp
end PM
namespace PM
open PySem L2 GL DL NR
open TL (tl numL)
open NumText (digitsVal AllDigits)
theorem empty_beq (d : List Nat) : (S d == S []) = d.isEmpty := by rw [S_beq]; cases d <;> rfl
section
variable (l : List Nat) (hl : l.length ≤ 600)
include hl
/-- the first step of both -/
theorem prog_cut : eIf (bB (eM1 gSw (eVar 0) (eC (.str (S [45]))))) (eSl (eVar 0) (pS (eC (.int 1))) pN) (eVar 0) [.sh (.str (S l)), .un, .un, .un, .un, .un] = .ok (.str (S (digsOf l))) := by
  have sw := sw_S l
  unfold digsOf
  cases hb : (l.head? == some 45) with
  | true =>
    have c1 := cut1_S' l (by omega) hb
    rw [hb] at sw
    rw [if_pos rfl]
    simp [eM1, sw, c1]
  | false =>
    rw [hb] at sw
    rw [if_neg Bool.false_ne_true]
    simp [eM1, sw]
theorem law_cut : eIf (bB (eOp gEq (eSl (eVar 0) pN (pS (eC (.int 1)))) (eC (.str (S [45]))))) (eSl (eVar 0) (pS (eC (.int 1))) pN) (eVar 0) [.sh (.str (S l)), .un, .un] = .ok (.str (S (digsOf l))) := by
  have t1 := take1_S l (by omega)
  have t2 := take1_eq l
  unfold digsOf
  cases hb : (l.head? == some 45) with
  | true =>
    have c1 := cut1_S' l (by omega) hb
    rw [hb] at t2
    rw [if_pos rfl]
    simp [t1, t2, c1]
  | false =>
    rw [hb] at t2
    rw [if_neg Bool.false_ne_true]
    simp [t1, t2]
end
/-- a text that is no integer's -/
def noInt (l : List Nat) : Bool := (digsOf l).isEmpty || (!(digsOf l).all isDg || ((digsOf l).head? == some 48 && !(l == [48])))
theorem ix_head (d : List Nat) (h : d.length < 1000000) (hd : d.isEmpty = false) : ∃ c r, d = c :: r ∧ gIx (.str (S d)) (.int 0) = some (.val (.str (S [c]))) := by
  cases d with
  | nil => cases hd
  | cons c r => exact ⟨c, r, rfl, ix0_S c r (by simp only [List.length_cons] at h; omega)⟩
section
variable (l : List Nat) (hl : l.length ≤ 600)
include hl
theorem prog_none (hn : noInt l = true) : M_integer_in [.str (S l)] = .ok (.sh .non) := by
  have pc := prog_cut l hl
  have dl := digs_len l
  have tr := tr_S (d := digsOf l) (by omega)
  have cm := cm_prog (d := digsOf l) (by omega)
  have al := all_val (digsOf l)
  have ixh := ix_head (digsOf l) (by omega)
  have lz : (S l == S [48]) = (l == [48]) := S_beq l [48]
  unfold noInt at hn
  unfold M_integer_in
  rw [body_eq, lit_minus, lit_zero]
  refine res_rt ?_
  refine seq_step (Γ' := [.sh (.str (S l)), .sh (.str (S (digsOf l))), .un, .un, .un, .un]) (by
    unfold mSet
    rw [show startD 6 [D.str (S l)] = [.sh (.str (S l)), .un, .un, .un, .un, .un] from rfl, pc]; rfl) ?_
  generalize hd : digsOf l = d at *
  generalize (d.map fun c => D.bl (isDg c)) = BL at *
  cases h0 : d.isEmpty with
  | true =>
    rw [h0] at tr
    generalize S d = SD at *
    generalize S l = Z at *
    simp [mSeq, tr]
  | false =>
    rw [h0] at tr hn
    obtain ⟨c, r, e, ix⟩ := ixh h0
    cases h1 : d.all isDg with
    | false =>
      rw [h1] at al
      generalize S d = SD at *
      generalize S l = Z at *
      simp [mSeq, tr, cm, al]
    | true =>
      rw [h1] at al hn
      rw [e] at hn
      simp only [Bool.false_or, Bool.not_true, List.head?_cons, Bool.and_eq_true, beq_iff_eq, Option.some.injEq] at hn
      obtain ⟨hc, hz⟩ := hn
      subst hc
      have hz' : (l == [48]) = false := by simpa using hz
      rw [hz'] at lz
      have c48 : (S [48] == S [48]) = true := by rw [S_beq]; rfl
      generalize S d = SD at *
      generalize S l = Z at *
      simp [mSeq, tr, cm, al, ix, c48, lz]
theorem law_none (hn : noInt l = true) : M_law_integer_of [.str (S l)] = .ok (.sh .non) := by
  have pc := law_cut l hl
  have dl := digs_len l
  have cm := cm_law (d := digsOf l) (by omega)
  have al := fil_nil (d := digsOf l)
  have em := empty_beq (digsOf l)
  have ixh := ix_head (digsOf l) (by omega)
  have lz : (S l == S [48]) = (l == [48]) := S_beq l [48]
  unfold noInt at hn
  unfold M_law_integer_of
  rw [body_eq, lit_minus, lit_zero, lit_none]
  refine res_rt ?_
  refine seq_step (Γ' := [.sh (.str (S l)), .sh (.str (S (digsOf l))), .un]) (by
    unfold mSet
    rw [show startD 3 [D.str (S l)] = [.sh (.str (S l)), .un, .un] from rfl, pc]; rfl) ?_
  generalize hd : digsOf l = d at *
  have nn : ∀ xs : List D, gNe (.lst xs) (.lst []) = some (.val (.bl (!xs.isEmpty))) := fun xs => ne_nil
  have nn := nn ((d.filter fun c => !isDg c).map fun c => D.str (S [c]))
  rw [al] at nn
  generalize ((d.filter fun c => !isDg c).map fun c => D.str (S [c])) = BL at *
  cases h0 : d.isEmpty with
  | true =>
    rw [h0] at em
    generalize S d = SD at *
    generalize S l = Z at *
    simp [mSeq, em]
  | false =>
    rw [h0] at em hn
    obtain ⟨c, r, e, ix⟩ := ixh h0
    cases h1 : d.all isDg with
    | false =>
      rw [h1] at nn
      generalize S d = SD at *
      generalize S l = Z at *
      simp [mSeq, em, cm, nn]
    | true =>
      rw [h1] at nn hn
      rw [e] at hn
      simp only [Bool.false_or, Bool.not_true, List.head?_cons, Bool.and_eq_true, beq_iff_eq, Option.some.injEq] at hn
      obtain ⟨hc, hz⟩ := hn
      subst hc
      have hz' : (l == [48]) = false := by simpa using hz
      rw [hz'] at lz
      have c48 : (S [48] == S [48]) = true := by rw [S_beq]; rfl
      generalize S d = SD at *
      generalize S l = Z at *
      simp [mSeq, em, cm, nn, ix, c48, lz]
end
end PM
namespace PM
open PySem L2 GL DL NR
open TL (tl numL)
open NumText (digitsVal AllDigits)
theorem digits_of_all {d : List Nat} (h : d.all isDg = true) : AllDigits d := fun c hc => isDg_iff.mp (List.all_eq_true.mp h c hc)
theorem text_digits {d : List Nat} (h : d.all isDg = true) (h0 : d.isEmpty = false) (hl : d.length ≤ 600) : gIntS (.str (S d)) = some (.val (.int (digitsVal d : Nat))) := by
  have it : PySem.intText? (S d) = some ((digitsVal d : Nat) : Int) := PySem.intText_digits (x := S d) (digits_of_all h) (by cases d with | nil => cases h0 | cons _ _ => simp) (by rw [S_len]; omega)
  show (match PySem.intText? (S d) with | some n => giv ((S d).length ≤ 640) (.int n) | none => none) = _
  rw [it]
  exact giv_pos (by rw [S_len]; omega)
theorem text_neg {d : List Nat} (h : d.all isDg = true) (h0 : d.isEmpty = false) (hl : d.length ≤ 600) : gIntS (.str (S (45 :: d))) = some (.val (.int (-(digitsVal d : Nat)))) := by
  have it : PySem.intText? (S (45 :: d)) = some (-((digitsVal d : Nat) : Int)) := PySem.intText_neg (x := S (45 :: d)) rfl (digits_of_all h) (by cases d with | nil => cases h0 | cons _ _ => simp) (by rw [S_len, List.length_cons]; omega)
  show (match PySem.intText? (S (45 :: d)) with | some n => giv ((S (45 :: d)).length ≤ 640) (.int n) | none => none) = _
  rw [it]
  exact giv_pos (by rw [S_len, List.length_cons]; omega)
/-- the integer that a text says -/
def valI (l : List Nat) : Int := if (l.head? == some 45) = true then -((digitsVal (digsOf l) : Nat) : Int) else (digitsVal (digsOf l) : Nat)
section
variable (l : List Nat) (hl : l.length ≤ 600)
include hl
theorem prog_some (hn : noInt l = false) : M_integer_in [.str (S l)] = .ok (.sh (.int (valI l))) := by
  have pc := prog_cut l hl
  have dl := digs_len l
  have tr := tr_S (d := digsOf l) (by omega)
  have cm := cm_prog (d := digsOf l) (by omega)
  have al := all_val (digsOf l)
  have ixh := ix_head (digsOf l) (by omega)
  have lz : (S l == S [48]) = (l == [48]) := S_beq l [48]
  have sw := sw_S l
  unfold noInt at hn
  rw [Bool.or_eq_false_iff, Bool.or_eq_false_iff] at hn
  obtain ⟨h0, h1, h2⟩ := hn
  have h1 : (digsOf l).all isDg = true := by simpa using h1
  obtain ⟨c, r, e, ix⟩ := ixh h0
  have tx := text_digits h1 h0 (by omega)
  rw [h0] at tr
  rw [h1] at al
  have cutA := cutA_S (digsOf l) (by omega)
  have hlen : gLen (.str (S (digsOf l))) = some (.val (.int ((digsOf l).length : Int))) := by
    show giv ((S (digsOf l)).length ≤ 1000000) (.int ((S (digsOf l)).length : Int)) = _
    rw [giv_pos (by rw [S_len]; omega), S_len]
  have pw : M_power_of [.int 10, .int ((digsOf l).length : Int)] = .ok (.sh (.int (10 ^ (digsOf l).length))) := power_of_eq (by decide) (by decide) (Nat.lt_of_le_of_lt (show (digsOf l).length ≤ 600 by omega) (by decide))
  have rg := rngS_one (l := (digsOf l).length) (by rw [e]; simp) (by omega)
  have mu : gMul (.int 0) (.int (10 ^ (digsOf l).length)) = some (.val (.int 0)) := by
    have := mul_ok (i := 0) (j := 10 ^ (digsOf l).length) (a := 4) (b := 3000) (by decide) (by
      rw [Int.natAbs_pow, show (10 : Int).natAbs = 10 from rfl]
      exact Nat.lt_of_le_of_lt (Nat.pow_le_pow_right (by decide) (show (digsOf l).length ≤ 600 by omega)) (show 10 ^ 600 < 2 ^ 3000 by decide +kernel)) (by decide) (by decide) (by decide)
    rw [Int.zero_mul] at this
    exact this
  have nz : ((toB ((toR (gIx (.str (S (digsOf l))) (.int 0))).bind fun x => toR (gEq x (.str (S [48]))))).bind fun b => if b = true then Res.ok (!S l == S [48]) else Res.ok false) = .ok false := by
    by_cases hc : c = 48
    · subst hc
      rw [e] at h2
      have hz : (l == [48]) = true := by simpa using h2
      rw [hz] at lz
      simp [ix, lz]
    · have : (S [c] == S [48]) = false := by rw [S_beq]; simp [hc]
      simp [ix, this]
  unfold valI
  unfold M_integer_in
  rw [body_eq, lit_minus, lit_zero]
  refine res_rt ?_
  refine seq_step (Γ' := [.sh (.str (S l)), .sh (.str (S (digsOf l))), .un, .un, .un, .un]) (by
    unfold mSet
    rw [show startD 6 [D.str (S l)] = [.sh (.str (S l)), .un, .un, .un, .un, .un] from rfl, pc]; rfl) ?_
  generalize hN : (10 : Int) ^ (digsOf l).length = P10 at *
  generalize hLL : ((digsOf l).length : Int) = LL at *
  generalize hK : ((digitsVal (digsOf l) : Nat) : Int) = k at *
  generalize (digsOf l).map (fun c => D.bl (isDg c)) = BL at *
  generalize (l.head? == some 45) = neg at *
  clear e lz h0 h1 h2 ix dl ixh hl pc
  generalize S (digsOf l) = SL at *
  generalize S l = z at *
  refine seq_step (Γ' := [.sh (.str z), .sh (.str SL), .un, .un, .un, .un]) (by simp [tr, cm, al]) ?_
  refine seq_step (Γ' := [.sh (.str z), .sh (.str SL), .un, .un, .un, .un]) (by simp [nz]) ?_
  refine seq_step (Γ' := [.sh (.str z), .sh (.str SL), .sh (.int 0), .un, .un, .un]) (by simp) ?_
  have turn : B_integer_in_1 [.sh (.str z), .sh (.str SL), .sh (.int 0), .sh (.int 0), .un, .un] = .nx [.sh (.str z), .sh (.str SL), .sh (.int k), .sh (.int 0), .sh (.str SL), .un] := by
    unfold B_integer_in_1
    refine seq_step (Γ' := [.sh (.str z), .sh (.str SL), .sh (.int 0), .sh (.int 0), .sh (.str SL), .un]) ?_ ?_
    · simp [cutA]
    · simp [hlen, pw, mu, tx]
  refine seq_step (Γ' := [.sh (.str z), .sh (.str SL), .sh (.int k), .sh (.int 0), .sh (.str SL), .un]) ?_ ?_
  · have e0 : iRS (eCons (eC (.int 0)) (eCons (eUn gLen (eVar 1)) (eCons (eC (.int 1000)) eNil))) [.sh (.str z), .sh (.str SL), .sh (.int 0), .un, .un, .un] = .ok [.int 0] := by
      have ev : eCons (eC (.int 0)) (eCons (eUn gLen (eVar 1)) (eCons (eC (.int 1000)) eNil)) [.sh (.str z), .sh (.str SL), .sh (.int 0), .un, .un, .un] = .ok [.int 0, .int LL, .int 1000] := by simp [hlen]
      unfold iRS
      rw [ev, bind_ok]
      exact rg
    unfold mFor
    rw [e0]
    rw [mTo_ok]
    rw [forM_cons _ _ _ _ _ [.sh (.str z), .sh (.str SL), .sh (.int 0), .sh (.int 0), .un, .un] rfl, turn]
    rfl
  cases neg <;> simp [eM1, sw]
theorem law_some (hn : noInt l = false) : M_law_integer_of [.str (S l)] = .ok (.sh (.int (valI l))) := by
  have pc := law_cut l hl
  have dl := digs_len l
  have cm := cm_law (d := digsOf l) (by omega)
  have al := fil_nil (d := digsOf l)
  have em := empty_beq (digsOf l)
  have ixh := ix_head (digsOf l) (by omega)
  have lz : (S l == S [48]) = (l == [48]) := S_beq l [48]
  unfold noInt at hn
  rw [Bool.or_eq_false_iff, Bool.or_eq_false_iff] at hn
  obtain ⟨h0, h1, h2⟩ := hn
  have h1 : (digsOf l).all isDg = true := by simpa using h1
  obtain ⟨c, r, e, ix⟩ := ixh h0
  have tx : gIntS (.str (S l)) = some (.val (.int (valI l))) := by
    have a := text_digits h1 h0 (by omega)
    have b := text_neg h1 h0 (by omega)
    unfold valI
    cases hb : (l.head? == some 45) with
    | true =>
      rw [if_pos rfl, ← b]
      unfold digsOf
      rw [hb, if_pos rfl]
      cases l with
      | nil => cases hb
      | cons x t =>
        have : x = 45 := by simpa using hb
        subst this; rfl
    | false =>
      rw [if_neg Bool.false_ne_true, ← a]
      unfold digsOf
      rw [hb, if_neg Bool.false_ne_true]
  have nn : ∀ xs : List D, gNe (.lst xs) (.lst []) = some (.val (.bl (!xs.isEmpty))) := fun xs => ne_nil
  have nn := nn (((digsOf l).filter fun c => !isDg c).map fun c => D.str (S [c]))
  rw [al, h1] at nn
  rw [h0] at em
  have nz : ((toB ((toR (gIx (.str (S (digsOf l))) (.int 0))).bind fun x => toR (gEq x (.str (S [48]))))).bind fun b => if b = true then Res.ok (!S l == S [48]) else Res.ok false) = .ok false := by
    by_cases hc : c = 48
    · subst hc
      rw [e] at h2
      have hz : (l == [48]) = true := by simpa using h2
      rw [hz] at lz
      simp [ix, lz]
    · have : (S [c] == S [48]) = false := by rw [S_beq]; simp [hc]
      simp [ix, this]
  unfold M_law_integer_of
  rw [body_eq, lit_minus, lit_zero, lit_none]
  refine res_rt ?_
  refine seq_step (Γ' := [.sh (.str (S l)), .sh (.str (S (digsOf l))), .un]) (by
    unfold mSet
    rw [show startD 3 [D.str (S l)] = [.sh (.str (S l)), .un, .un] from rfl, pc]; rfl) ?_
  generalize (((digsOf l).filter fun c => !isDg c).map fun c => D.str (S [c])) = BL at *
  clear e lz h0 h1 h2 ix dl ixh hl pc
  generalize valI l = k at *
  generalize S (digsOf l) = SL at *
  generalize S l = z at *
  refine seq_step (Γ' := [.sh (.str z), .sh (.str SL), .un]) (by simp [em, cm, nn]) ?_
  refine seq_step (Γ' := [.sh (.str z), .sh (.str SL), .un]) (by simp [nz]) ?_
  simp [tx]
end
theorem pow560 : 10 ^ 560 < 2 ^ 1900 := by decide +kernel
/-- both readings of a text agree -/
theorem int_both (l : List Nat) (hl : l.length ≤ 560) : ∃ r : Option Int, M_integer_in [.str (S l)] = .ok (.sh (oI r)) ∧ M_law_integer_of [.str (S l)] = .ok (.sh (oI r)) ∧ ∀ i, r = some i → i.natAbs < 2 ^ 1900 ∧ l ≠ [] ∧ ∀ c ∈ l, c = 45 ∨ (48 ≤ c ∧ c ≤ 57) := by
  cases hn : noInt l with
  | true => exact ⟨none, prog_none l (by omega) hn, law_none l (by omega) hn, fun i h => by cases h⟩
  | false =>
    refine ⟨some (valI l), prog_some l (by omega) hn, law_some l (by omega) hn, fun i h => ?_⟩
    cases h
    unfold noInt at hn
    rw [Bool.or_eq_false_iff, Bool.or_eq_false_iff] at hn
    obtain ⟨h0, h1, _⟩ := hn
    have h1 : (digsOf l).all isDg = true := by simpa using h1
    have dl := digs_len l
    have hd := digits_of_all h1
    have lt : digitsVal (digsOf l) < 2 ^ 1900 := by
      have := dval_lt (digsOf l) 0 fun c hc => (hd c hc).2
      rw [Nat.zero_add, Nat.one_mul] at this
      exact Nat.lt_trans (Nat.lt_of_lt_of_le this (Nat.pow_le_pow_right (by decide) (show (digsOf l).length ≤ 560 by omega))) pow560
    refine ⟨?_, ?_, ?_⟩
    · have : (valI l).natAbs = digitsVal (digsOf l) := by unfold valI; split <;> omega
      rw [this]; exact lt
    · rintro rfl; cases h0
    · intro c hc
      unfold digsOf at hd
      split at hd
      · cases l with
        | nil => cases hc
        | cons x t =>
          rename_i hb
          have hx : x = 45 := by simpa using hb
          rcases List.mem_cons.mp hc with rfl | hc
          · exact .inl hx
          · exact .inr (hd c hc)
      · exact .inr (hd c hc)
end PM
namespace PM
open PySem L2 GL DL NR
open TL (tl numL joinL)
theorem parts_of (m : Nat) : ∀ l : List Nat, ∃ p ps, (∀ x ∈ p :: ps, m ∉ x) ∧ l = joinL [m] (p :: ps)
  | [] => ⟨[], [], fun x hx => by simp at hx; subst hx; simp, rfl⟩
  | c :: r => by
    obtain ⟨p, ps, hf, e⟩ := parts_of m r
    by_cases hc : c = m
    · subst hc
      refine ⟨[], p :: ps, fun x hx => ?_, ?_⟩
      · rcases List.mem_cons.mp hx with rfl | hx
        · simp
        · exact hf x hx
      · rw [e]; rfl
    · refine ⟨c :: p, ps, fun x hx => ?_, ?_⟩
      · rcases List.mem_cons.mp hx with rfl | hx
        · intro h
          rcases List.mem_cons.mp h with h | h
          · exact hc h.symm
          · exact hf p List.mem_cons_self h
        · exact hf x (List.mem_cons_of_mem _ hx)
      · rw [e]
        cases ps <;> rfl
theorem join_len (m : Nat) : ∀ (p : List Nat) (ps : List (List Nat)), (joinL [m] (p :: ps)).length = p.length + (ps.map fun x => x.length + 1).sum
  | p, [] => rfl
  | p, q :: r => by
    show (p ++ ([m] ++ joinL [m] (q :: r))).length = _
    rw [List.length_append, List.length_append, join_len m q r]
    simp only [List.length_cons, List.length_nil, List.map_cons, List.sum_cons]
    omega
theorem part_len {m : Nat} {p : List Nat} {ps : List (List Nat)} : ∀ x ∈ p :: ps, x.length ≤ (joinL [m] (p :: ps)).length := fun x hx => by
  rw [join_len]
  rcases List.mem_cons.mp hx with rfl | hx
  · omega
  · have : ∀ qs : List (List Nat), x ∈ qs → x.length ≤ (qs.map fun x => x.length + 1).sum := fun qs => by
      induction qs with
      | nil => intro h; cases h
      | cons q r ih =>
        intro h
        rw [List.map_cons, List.sum_cons]
        rcases List.mem_cons.mp h with rfl | h
        · omega
        · have := ih h; omega
    have := this ps hx
    omega
theorem split_parts {m : Nat} (hm : m < 256) {p : List Nat} {ps : List (List Nat)} (hf : ∀ x ∈ p :: ps, m ∉ x) (hl : (joinL [m] (p :: ps)).length ≤ 1000000) :
    gSplit (.str (S (joinL [m] (p :: ps)))) (.str (S [m])) = some (.newL ((p :: ps).map fun x => D.str (S x))) := by
  show (if ((S [m]).length == 0) = false ∧ (S (joinL [m] (p :: ps))).length ≤ 1000000 then some (Giv.newL ((Txt.split (S (joinL [m] (p :: ps))) (S [m])).map .str)) else none) = _
  rw [if_pos ⟨by rw [S_len]; rfl, by rw [S_len]; exact hl⟩, SX.split_S (by simp) (by simpa using hm), SX.spl_join (by simp) hf, List.map_map]
  rfl
theorem part_one {m : Nat} {p : List Nat} (hf : m ∉ p) (hl : p.length ≤ 100000) : gPart (.str (S p)) (.str (S [m])) = some (.newT [.str (S p), .str (S []), .str (S [])]) := part_none_S p hf hl
theorem mem_join (m : Nat) (p : List Nat) (q : List Nat) (r : List (List Nat)) : m ∈ joinL [m] (p :: q :: r) := by
  show m ∈ p ++ ([m] ++ joinL [m] (q :: r))
  simp
def oN : Option (Int × Int) → D
  | none => .non
  | some (n, e) => .tup [.int n, .int e]
theorem fair_oI (r x : Option Int) : fair (.tup [oI r, oI x]) = true := by cases r <;> cases x <;> rfl
theorem isNum_non2 (b : Int) (r : Option Int) : isNum b (.tup [oI r, .non]) = false := by cases r <;> rfl
section
variable {b : Int} (hb : 0 < b)
include hb
theorem prog_num1 {z : Str} {p : List Nat} {r : Option Int} (pt : gPart (.str z) (.str (S [101])) = some (.newT [.str (S p), .str (S []), .str (S [])])) (i1 : M_integer_in [.str (S p)] = .ok (.sh (oI r))) :
    M_number_in [.int b, .str z] = .ok (.sh (if isNum b (.tup [oI r, .int 0]) = true then .tup [oI r, .int 0] else .non)) := by
  have t0 := truth_S (a := []) (by decide)
  have nm := is_number_eq hb (fair_oI r (some 0))
  rw [show oI (some 0) = .int 0 from rfl] at nm
  unfold M_number_in
  rw [body_eq, lit_e]
  cases h : isNum b (.tup [oI r, .int 0]) <;> rw [h] at nm <;> generalize oI r = R at * <;> generalize S p = SP at * <;> simp [eM1, pt, t0, i1, nm]
theorem prog_num2 {z : Str} {p q : List Nat} {r x : Option Int} (pt : gPart (.str z) (.str (S [101])) = some (.newT [.str (S p), .str (S [101]), .str (S q)])) (i1 : M_integer_in [.str (S p)] = .ok (.sh (oI r))) (i2 : M_integer_in [.str (S q)] = .ok (.sh (oI x))) :
    M_number_in [.int b, .str z] = .ok (.sh (if x ≠ some 0 ∧ isNum b (.tup [oI r, oI x]) = true then .tup [oI r, oI x] else .non)) := by
  have t1 := truth_S (a := [101]) (by decide)
  have nm := is_number_eq hb (fair_oI r x)
  have eq0 : gEq (oI x) (.int 0) = some (.val (.bl (decide (x = some 0)))) := by
    cases x with
    | none => rfl
    | some i =>
      show some (Giv.val (D.bl (i == 0))) = _
      by_cases h : i = 0
      · subst h; rfl
      · have h1 : (i == 0) = false := by simpa using h
        have h2 : ¬ some i = some 0 := fun z => h (Option.some.inj z)
        rw [h1, decide_eq_false h2]
  unfold M_number_in
  rw [body_eq, lit_e]
  by_cases hx : x = some 0
  · rw [decide_eq_true hx] at eq0
    rw [if_neg (fun h => h.1 hx)]
    generalize oI r = R at *
    generalize oI x = X at *
    generalize S p = SP at *
    generalize S q = SQ at *
    simp [eM1, pt, t1, i1, i2, eq0]
  · rw [decide_eq_false hx] at eq0
    cases h : isNum b (.tup [oI r, oI x]) <;> rw [h] at nm <;> generalize oI r = R at * <;> generalize oI x = X at * <;> generalize S p = SP at * <;> generalize S q = SQ at * <;> simp [eM1, pt, t1, i1, i2, eq0, nm, hx]
theorem law_num_some {z : Str} {PL VL TL WL : List D} {n e : Int} (sp : gSplit (.str z) (.str (S [101])) = some (.newL PL)) (cm : mComp [6] (iLst (eVar 2)) (bName 6) bYes C_law_number_of_1 [.sh (.int b), .sh (.str z), .sh (.lst PL), .un, .un, .un, .un] = .ok VL)
    (hlen : (PL.length : Int) ≤ 2) (hin : gIn false .non (.lst VL) = some (.val (.bl false))) (hsl : gSl (some 1) none (.lst VL) = some (.newL TL)) (heq : gEq (.lst TL) (.lst [.int 0]) = some (.val (.bl false)))
    (h0 : gIx (.lst VL) (.int 0) = some (.val (.int n))) (hadd : gAdd (.lst VL) (.lst [.int 0]) = some (.newL WL)) (h1 : gIx (.lst WL) (.int 1) = some (.val (.int e))) :
    M_law_number_of [.int b, .str z] = .ok (.sh (if isNum b (.tup [.int n, .int e]) = true then .tup [.int n, .int e] else .non)) := by
  have l2 : decide ((2 : Int) < (PL.length : Int)) = false := decide_eq_false (by omega)
  have i0 := tup_ix0 (.int n) [.int e]
  have i1 := tup_ix1 (.int n) (.int e) []
  unfold M_law_number_of
  rw [body_eq, lit_e]
  refine res_rt ?_
  refine seq_step (Γ' := [.sh (.int b), .sh (.str z), .sh (.lst PL), .un, .un, .un, .un]) (by simp [eM1, sp]) ?_
  refine seq_step (Γ' := [.sh (.int b), .sh (.str z), .sh (.lst PL), .sh (.lst VL), .un, .un, .un]) (by simp [cm]) ?_
  refine seq_step (Γ' := [.sh (.int b), .sh (.str z), .sh (.lst PL), .sh (.lst VL), .un, .un, .un]) (by simp [l2, hin, hsl, heq]) ?_
  refine seq_step (Γ' := [.sh (.int b), .sh (.str z), .sh (.lst PL), .sh (.lst VL), .sh (.tup [.int n, .int e]), .un, .un]) (by simp [h0, hadd, h1]) ?_
  by_cases hn : n = 0
  · subst hn
    by_cases he : e = 0
    · subst he
      rw [if_pos (by unfold isNum; simp)]
      simp [mSeq, i0, i1]
    · rw [if_neg (by unfold isNum; simp [he])]
      simp [mSeq, he, i0, i1]
  · refine seq_step (Γ' := [.sh (.int b), .sh (.str z), .sh (.lst PL), .sh (.lst VL), .sh (.tup [.int n, .int e]), .un, .un]) (by simp [hn, i0]) ?_
    have p1 := LL_1
    have p2 := LL_2
    have fe : few n = decide ((if n < 0 then -n else n) < LL) := by unfold few; rw [LL_eq]
    have hu : isNum b (.tup [.int n, .int e]) = (decide (n % b ≠ 0) && (decide ((if n < 0 then -n else n) < LL) && (decide (-1000 ≤ e) && decide (e ≤ 1000)))) := by
      show (decide (-1000 ≤ e ∧ e ≤ 1000) && if n = 0 then decide (e = 0) else decide (n % b ≠ 0) && few n) = _
      rw [if_neg hn, fe]
      by_cases h1 : -1000 ≤ e <;> by_cases h2 : e ≤ 1000 <;> simp [h1, h2]
    rw [hu]
    generalize hT : (10 : Int) ^ 60 = T at p1 p2
    generalize LL = L at *
    refine seq_step (Γ' := [.sh (.int b), .sh (.str z), .sh (.lst PL), .sh (.lst VL), .sh (.tup [.int n, .int e]), .sh (.bl (decide (n % b ≠ 0) && (decide ((if n < 0 then -n else n) < L) && (decide (-1000 ≤ e) && decide (e ≤ 1000))))), .un]) ?_ ?_
    · by_cases h3 : n % b = 0 <;> by_cases h4 : (if n < 0 then -n else n) < L <;> by_cases h5 : -1000 ≤ e <;> by_cases h6 : e ≤ 1000 <;> simp [i0, i1, hb, p1, p2, h3, h4, h5, h6]
    · cases hk : (decide (n % b ≠ 0) && (decide ((if n < 0 then -n else n) < L) && (decide (-1000 ≤ e) && decide (e ≤ 1000)))) <;> simp
end
end PM
namespace PM
open PySem L2 GL DL NR
open TL (tl numL joinL)
section
variable {b : Int}
theorem law_num_non {z : Str} {PL VL : List D} (sp : gSplit (.str z) (.str (S [101])) = some (.newL PL)) (cm : mComp [6] (iLst (eVar 2)) (bName 6) bYes C_law_number_of_1 [.sh (.int b), .sh (.str z), .sh (.lst PL), .un, .un, .un, .un] = .ok VL)
    (h : 2 < (PL.length : Int) ∨ (¬ 2 < (PL.length : Int) ∧ (gIn false .non (.lst VL) = some (.val (.bl true)) ∨ (gIn false .non (.lst VL) = some (.val (.bl false)) ∧ ∃ TL, gSl (some 1) none (.lst VL) = some (.newL TL) ∧ gEq (.lst TL) (.lst [.int 0]) = some (.val (.bl true)))))) :
    M_law_number_of [.int b, .str z] = .ok (.sh .non) := by
  unfold M_law_number_of
  rw [body_eq, lit_e]
  refine res_rt ?_
  refine seq_step (Γ' := [.sh (.int b), .sh (.str z), .sh (.lst PL), .un, .un, .un, .un]) (by simp [eM1, sp]) ?_
  refine seq_step (Γ' := [.sh (.int b), .sh (.str z), .sh (.lst PL), .sh (.lst VL), .un, .un, .un]) (by simp [cm]) ?_
  rcases h with h | ⟨h, h2 | ⟨h2, TL, h3, h4⟩⟩
  · have l2 : decide ((2 : Int) < (PL.length : Int)) = true := decide_eq_true h
    simp [mSeq, l2]
  · have l2 : decide ((2 : Int) < (PL.length : Int)) = false := decide_eq_false h
    simp [mSeq, l2, h2]
  · have l2 : decide ((2 : Int) < (PL.length : Int)) = false := decide_eq_false h
    simp [mSeq, l2, h2, h3, h4]
end
/-- the integer that a text says, if any -/
def rd (l : List Nat) : Option Int := if noInt l = true then none else some (valI l)
section
variable {l : List Nat} (hl : l.length ≤ 560)
include hl
theorem rd_prog : M_integer_in [.str (S l)] = .ok (.sh (oI (rd l))) := by
  unfold rd
  split
  · rename_i h; exact prog_none l (by omega) h
  · rename_i h; exact prog_some l (by omega) (by simpa using h)
theorem rd_law : M_law_integer_of [.str (S l)] = .ok (.sh (oI (rd l))) := by
  unfold rd
  split
  · rename_i h; exact law_none l (by omega) h
  · rename_i h; exact law_some l (by omega) (by simpa using h)
theorem rd_val {i : Int} (h : rd l = some i) : i.natAbs < 2 ^ 1900 ∧ l ≠ [] ∧ ∀ c ∈ l, c = 45 ∨ (48 ≤ c ∧ c ≤ 57) := by
  obtain ⟨r, h1, _, h3⟩ := int_both l hl
  have := rd_prog hl
  rw [h1] at this
  refine h3 i ?_
  rw [h] at this
  cases r with
  | none => cases this
  | some j => cases this; rfl
theorem rd_mark {m : Nat} (hm : m ≠ 45 ∧ (m < 48 ∨ 57 < m)) (h : m ∈ l) : rd l = none := by
  cases hr : rd l with
  | none => rfl
  | some i =>
    have := (rd_val hl hr).2.2 m h
    omega
end
theorem rd_nil : rd [] = none := rfl
/-- the law reads all parts -/
theorem comp_parts (s0 s1 s2 s3 s4 s5 : DL.Slot) : ∀ ps : List (List Nat), (∀ x ∈ ps, x.length ≤ 560) → compM (bName 6) bYes C_law_number_of_1 [s0, s1, s2, s3, s4, s5, .un] (ps.map fun x => D.str (S x)) = .ok (ps.map fun x => oI (rd x))
  | [], _ => rfl
  | p :: r, h => by
    have e := comp_parts s0 s1 s2 s3 s4 s5 r fun x hx => h x (List.mem_cons_of_mem _ hx)
    have h2 := rd_law (h p List.mem_cons_self)
    rw [List.map_cons, compM]
    have : C_law_number_of_1 [s0, s1, s2, s3, s4, s5, .sh (.str (S p))] = .ok (oI (rd p)) := by
      unfold C_law_number_of_1
      generalize oI (rd p) = X at *
      simp [h2]
    simp [this, e]
theorem comp_of {s0 s1 : DL.Slot} {PL VL : List D} (hl : PL.length < 1000000) (h : compM (bName 6) bYes C_law_number_of_1 [s0, s1, .sh (.lst PL), .un, .un, .un, .un] PL = .ok VL) : mComp [6] (iLst (eVar 2)) (bName 6) bYes C_law_number_of_1 [s0, s1, .sh (.lst PL), .un, .un, .un, .un] = .ok VL := by
  simp [comp_eq, wipeE, h, hl]
theorem in_non1 (v : Int) : gIn false .non (.lst [.int v]) = some (.val (.bl false)) := rfl
theorem in_non2 (v w : Int) : gIn false .non (.lst [.int v, .int w]) = some (.val (.bl false)) := rfl
theorem in_non1' : gIn false .non (.lst [.non]) = some (.val (.bl true)) := rfl
theorem in_non2' (x : Option Int) : gIn false .non (.lst [.non, oI x]) = some (.val (.bl true)) := by cases x <;> rfl
theorem in_non2'' (v : Int) : gIn false .non (.lst [.int v, .non]) = some (.val (.bl true)) := rfl
theorem sum_ge : ∀ qs : List (List Nat), qs.length ≤ (qs.map fun x => x.length + 1).sum
  | [] => Nat.le_refl _
  | q :: r => by have := sum_ge r; rw [List.map_cons, List.sum_cons, List.length_cons]; omega
theorem atl0 (x : D) (r : List D) : gIx (.lst (x :: r)) (.int 0) = some (.val x) := by rw [gIx_lst, atI_nn (i := 0) (a := x) (by decide) rfl]; rfl
theorem atl1 (x y : D) (r : List D) : gIx (.lst (x :: y :: r)) (.int 1) = some (.val y) := by rw [gIx_lst, atI_nn (i := 1) (a := y) (by decide) rfl]; rfl
theorem ne_one {w : Int} (hw : w ≠ 0) : gEq (.lst [.int w]) (.lst [.int 0]) = some (.val (.bl false)) := by
  show giv (eqOk (.lst [.int w]) = true ∧ eqOk (.lst [.int 0]) = true) (.bl (PyData.eqv (py (.lst [.int w])) (py (.lst [.int 0])))) = _
  rw [giv_pos ⟨eqOk_lst fun x hx => by
    simp only [List.mem_cons, List.not_mem_nil, or_false] at hx
    subst hx
    exact Smp.int w, by decide +kernel⟩]
  simp [py, pyAll, PyData.eqv, PyData.eqvAll, hw]
/-- the number that a text says, if any -/
def numR (b : Int) (r x : Option Int) : Option (Int × Int) := match r, x with
  | some n, some e => if isNum b (.tup [.int n, .int e]) = true then some (n, e) else none
  | _, _ => none
theorem numR_ok {b n e : Int} {r x : Option Int} (h : numR b r x = some (n, e)) : isNum b (.tup [.int n, .int e]) = true := by
  unfold numR at h
  split at h
  · split at h
    · rename_i hk; cases h; exact hk
    · cases h
  · cases h
theorem numR_D (b : Int) (r x : Option Int) : (if isNum b (.tup [oI r, oI x]) = true then D.tup [oI r, oI x] else .non) = oN (numR b r x) := by
  cases r with
  | none => rfl
  | some n => cases x with
    | none => rfl
    | some e =>
      show (if isNum b (.tup [.int n, .int e]) = true then D.tup [.int n, .int e] else .non) = oN (if isNum b (.tup [.int n, .int e]) = true then some (n, e) else none)
      split <;> rfl
/-- both readings of a number's text agree -/
theorem num_both {b : Int} (hb : 0 < b) (l : List Nat) (hl : l.length ≤ 560) : ∃ r : Option (Int × Int), M_number_in [.int b, .str (S l)] = .ok (.sh (oN r)) ∧ M_law_number_of [.int b, .str (S l)] = .ok (.sh (oN r)) ∧ ∀ n e, r = some (n, e) → isNum b (.tup [.int n, .int e]) = true := by
  obtain ⟨p, ps, hf, rfl⟩ := parts_of 101 l
  have pl := part_len (m := 101) (p := p) (ps := ps)
  have hpl : ∀ x ∈ p :: ps, x.length ≤ 560 := fun x hx => Nat.le_trans (pl x hx) hl
  have sp := split_parts (m := 101) (by decide) hf (by omega)
  have a1 := rd_prog (hpl p List.mem_cons_self)
  have cm := comp_parts (.sh (.int b)) (.sh (.str (S (joinL [101] (p :: ps))))) (.sh (.lst ((p :: ps).map fun x => D.str (S x)))) .un .un .un (p :: ps) hpl
  have hlen : ((p :: ps).map fun x => D.str (S x)).length < 1000000 := by
    rw [List.length_map]
    have h1 := sum_ge ps
    rw [join_len] at hl
    rw [List.length_cons]; omega
  have cm := comp_of hlen cm
  rcases ps with _ | ⟨q, _ | ⟨q2, r⟩⟩
  · have pt := part_one (hf p List.mem_cons_self) (show p.length ≤ 100000 by have := hpl p List.mem_cons_self; omega)
    have pn := prog_num1 hb pt a1
    rw [show (D.int 0) = oI (some 0) from rfl, numR_D] at pn
    have sp : gSplit (.str (S p)) (.str (S [101])) = some (.newL [.str (S p)]) := sp
    have cm : mComp [6] (iLst (eVar 2)) (bName 6) bYes C_law_number_of_1 [.sh (.int b), .sh (.str (S p)), .sh (.lst [.str (S p)]), .un, .un, .un, .un] = .ok [oI (rd p)] := cm
    refine ⟨_, pn, ?_, fun n e h => numR_ok h⟩
    show M_law_number_of [.int b, .str (S p)] = _
    cases hx : rd p with
    | none => rw [hx] at cm; exact law_num_non sp cm (.inr ⟨by simp, .inl in_non1'⟩)
    | some v =>
      rw [hx] at cm
      have ln := law_num_some hb sp cm (by simp) (in_non1 v) (n := v) (e := 0) (TL := []) (WL := [.int v, .int 0]) rfl rfl (atl0 _ _) rfl (atl1 _ _ _)
      rw [ln, ← numR_D]; rfl
  · have hq := hpl q (by simp)
    have a2 := rd_prog hq
    have hpq : (joinL [101] [p, q]) = p ++ 101 :: q := rfl
    have pt := part_S p q (k := 101) (hf p List.mem_cons_self) (by decide) (by have := hpl p List.mem_cons_self; omega)
    have pn := prog_num2 hb pt a1 a2
    have sp : gSplit (.str (S (p ++ 101 :: q))) (.str (S [101])) = some (.newL [.str (S p), .str (S q)]) := sp
    have cm : mComp [6] (iLst (eVar 2)) (bName 6) bYes C_law_number_of_1 [.sh (.int b), .sh (.str (S (p ++ 101 :: q))), .sh (.lst [.str (S p), .str (S q)]), .un, .un, .un, .un] = .ok [oI (rd p), oI (rd q)] := cm
    rw [hpq]
    by_cases h0 : rd q = some 0
    · rw [if_neg (fun h => h.1 h0)] at pn
      refine ⟨none, pn, ?_, fun n e h => by cases h⟩
      rw [h0] at cm
      cases hx : rd p with
      | none => rw [hx] at cm; exact law_num_non sp cm (.inr ⟨by simp, .inl (in_non2' (some 0))⟩)
      | some v => rw [hx] at cm; exact law_num_non sp cm (.inr ⟨by simp, .inr ⟨in_non2 v 0, [.int 0], rfl, rfl⟩⟩)
    · have e1 : (if rd q ≠ some 0 ∧ isNum b (.tup [oI (rd p), oI (rd q)]) = true then D.tup [oI (rd p), oI (rd q)] else .non) = oN (numR b (rd p) (rd q)) := by
        rw [← numR_D]
        simp [h0]
      rw [e1] at pn
      refine ⟨_, pn, ?_, fun n e h => numR_ok h⟩
      cases hx : rd p with
      | none => rw [hx] at cm; exact law_num_non sp cm (.inr ⟨by simp, .inl (in_non2' (rd q))⟩)
      | some v =>
        rw [hx] at cm
        cases hy : rd q with
        | none => rw [hy] at cm; exact law_num_non sp cm (.inr ⟨by simp, .inl (in_non2'' v)⟩)
        | some w =>
          rw [hy] at cm
          have hw : w ≠ 0 := fun z => h0 (by rw [hy, z])
          have hw' : gEq (.lst [.int w]) (.lst [.int 0]) = some (.val (.bl false)) := ne_one hw
          have ln := law_num_some hb sp cm (by simp) (in_non2 v w) (n := v) (e := w) (TL := [.int w]) (WL := [.int v, .int w, .int 0]) rfl hw' (atl0 _ _) rfl (atl1 _ _ _)
          rw [ln, ← numR_D]; rfl
  · have hz : (joinL [101] (p :: q :: q2 :: r)) = p ++ 101 :: joinL [101] (q :: q2 :: r) := rfl
    have hl2 : (joinL [101] (q :: q2 :: r)).length ≤ 560 := by rw [hz] at hl; simp only [List.length_append, List.length_cons] at hl; omega
    have pt := part_S p (joinL [101] (q :: q2 :: r)) (k := 101) (hf p List.mem_cons_self) (by decide) (by have := hpl p List.mem_cons_self; omega)
    have a2 := rd_prog hl2
    have hn := rd_mark hl2 (m := 101) (by decide) (mem_join 101 q q2 r)
    have pn := prog_num2 hb pt a1 a2
    rw [hn, if_neg (fun h => by have := h.2; rw [show oI none = D.non from rfl, isNum_non2] at this; cases this)] at pn
    exact ⟨none, pn, law_num_non sp cm (.inl (by simp; omega)), fun n e h => by cases h⟩
end PM
namespace PM
open PySem L2 GL DL NR
open TL (tl numL joinL)
theorem fair2_oN (r : Option (Int × Int)) (x : Option Int) : fair2 (.tup [oN r, oI x]) = true := by
  cases r with
  | none => cases x <;> rfl
  | some y => cases x <;> rfl
section
variable {b : Int} (hb : 0 < b)
include hb
theorem prog_pair {z : Str} {M p q : List Nat} {m : Str} {r : Option (Int × Int)} {x : Option Int} (pt : gPart (.str z) (.str m) = some (.newT [.str (S p), .str (S M), .str (S q)])) (i1 : M_number_in [.int b, .str (S p)] = .ok (.sh (oN r))) (i2 : M_integer_in [.str (S q)] = .ok (.sh (oI x))) :
    M_pair_in [.int b, .str z, .str m] = .ok (.sh (if isPair b (.tup [oN r, oI x]) = true then .tup [oN r, oI x] else .non)) := by
  have nm := is_pair_eq hb (fair2_oN r x)
  unfold M_pair_in
  rw [body_eq]
  cases h : isPair b (.tup [oN r, oI x]) <;> rw [h] at nm <;> generalize oN r = R at * <;> generalize oI x = X at * <;> generalize S p = SP at * <;> generalize S q = SQ at * <;> simp [eM1, pt, i1, i2, nm]
end
section
variable {b : Int}
theorem law_pair_non {z m : Str} {PL : List D} (sp : gSplit (.str z) (.str m) = some (.newL PL)) (h : (PL.length : Int) ≠ 2) : M_law_pair_of [.int b, .str z, .str m] = .ok (.sh .non) := by
  have h2 : ((PL.length : Int) == 2) = false := by simpa using h
  unfold M_law_pair_of
  rw [body_eq]
  simp [eM1, sp, h]
theorem law_pair_two {z m p q : Str} {r : Option (Int × Int)} {x : Option Int} (sp : gSplit (.str z) (.str m) = some (.newL [.str p, .str q])) (i1 : M_law_number_of [.int b, .str p] = .ok (.sh (oN r))) (i2 : M_law_integer_of [.str q] = .ok (.sh (oI x)))
    (hr : ∀ n e, r = some (n, e) → isNum b (.tup [.int n, .int e]) = true) :
    M_law_pair_of [.int b, .str z, .str m] = .ok (.sh (if isPair b (.tup [oN r, oI x]) = true then .tup [oN r, oI x] else .non)) := by
  have a0 := atl0 (.str p) [.str q]
  have a1 := atl1 (.str p) (.str q) []
  unfold M_law_pair_of
  rw [body_eq]
  cases r with
  | none =>
    have e : isPair b (.tup [oN none, oI x]) = false := rfl
    rw [e, if_neg Bool.false_ne_true]
    have nn : DL.isNon (oN none) = true := rfl
    generalize oN none = R at *
    generalize oI x = X at *
    simp [eM1, sp, a0, a1, i1, i2, nn]
  | some y =>
    obtain ⟨n, e⟩ := y
    have hn := hr n e rfl
    have nn : DL.isNon (oN (some (n, e))) = false := rfl
    cases x with
    | none =>
      have e1 : isPair b (.tup [oN (some (n, e)), oI none]) = false := by
        show (isNum b (.tup [.int n, .int e]) && within (-1000) 1000 .non) = false
        rw [hn]; rfl
      rw [e1, if_neg Bool.false_ne_true]
      have n2 : DL.isNon (oI none) = true := rfl
      generalize oN (some (n, e)) = R at *
      generalize oI none = X at *
      simp [eM1, sp, a0, a1, i1, i2, nn, n2]
    | some i =>
      have e1 : isPair b (.tup [oN (some (n, e)), oI (some i)]) = (decide (-1000 ≤ i) && decide (i ≤ 1000)) := by
        show (isNum b (.tup [.int n, .int e]) && within (-1000) 1000 (.int i)) = _
        rw [hn, Bool.true_and]
        unfold within
        by_cases h1 : -1000 ≤ i <;> by_cases h2 : i ≤ 1000 <;> simp [h1, h2]
      rw [e1]
      have n2 : DL.isNon (.int i) = false := rfl
      rw [show oI (some i) = .int i from rfl] at *
      generalize oN (some (n, e)) = R at *
      by_cases h1 : -1000 ≤ i <;> by_cases h2 : i ≤ 1000 <;> simp [eM1, sp, a0, a1, i1, i2, nn, n2, h1, h2]
end
/-- both readings of a pair's text agree -/
theorem pair_both {b : Int} (hb : 0 < b) {m : Nat} (hm : m ≠ 45 ∧ (m < 48 ∨ 57 < m)) (hm2 : m < 256) (l : List Nat) (hl : l.length ≤ 560) : ∃ r : D, M_pair_in [.int b, .str (S l), .str (S [m])] = .ok (.sh r) ∧ M_law_pair_of [.int b, .str (S l), .str (S [m])] = .ok (.sh r) ∧ (r = .non ∨ isPair b r = true) := by
  have fin : ∀ (r : Option (Int × Int)) (x : Option Int), (if isPair b (.tup [oN r, oI x]) = true then D.tup [oN r, oI x] else .non) = .non ∨ isPair b (if isPair b (.tup [oN r, oI x]) = true then D.tup [oN r, oI x] else .non) = true := fun r x => by
    split
    · rename_i h; exact .inr h
    · exact .inl rfl
  have noP : ∀ r, isPair b (.tup [oN r, oI none]) = false := fun r => by
    show (isNum b (oN r) && within (-1000) 1000 .non) = false
    cases isNum b (oN r) <;> rfl
  obtain ⟨p, ps, hf, rfl⟩ := parts_of m l
  have pl := part_len (m := m) (p := p) (ps := ps)
  have hpl : ∀ x ∈ p :: ps, x.length ≤ 560 := fun x hx => Nat.le_trans (pl x hx) hl
  have sp := split_parts hm2 hf (by omega)
  have hp := hpl p List.mem_cons_self
  obtain ⟨r, b1, b2, b3⟩ := num_both hb p hp
  rcases ps with _ | ⟨q, _ | ⟨q2, t⟩⟩
  · have pt := part_one (hf p List.mem_cons_self) (show p.length ≤ 100000 by omega)
    have i0 : M_integer_in [.str (S [])] = .ok (.sh (oI none)) := by
      have := rd_prog (l := []) (by decide)
      rw [rd_nil] at this; exact this
    have pn := prog_pair hb pt b1 i0
    rw [noP r, if_neg Bool.false_ne_true] at pn
    exact ⟨.non, pn, law_pair_non sp (by simp), .inl rfl⟩
  · have hq := hpl q (by simp)
    have pt := part_S p q (hf p List.mem_cons_self) hm2 (by omega)
    have pn := prog_pair hb pt b1 (rd_prog hq)
    exact ⟨_, pn, law_pair_two sp b2 (rd_law hq) b3, fin r (rd q)⟩
  · have hz : (joinL [m] (p :: q :: q2 :: t)) = p ++ m :: joinL [m] (q :: q2 :: t) := rfl
    have hl2 : (joinL [m] (q :: q2 :: t)).length ≤ 560 := by rw [hz] at hl; simp only [List.length_append, List.length_cons] at hl; omega
    have pt := part_S p (joinL [m] (q :: q2 :: t)) (hf p List.mem_cons_self) hm2 (by omega)
    have a2 := rd_prog hl2
    rw [rd_mark hl2 hm (mem_join m q q2 t)] at a2
    have pn := prog_pair hb pt b1 a2
    rw [noP r, if_neg Bool.false_ne_true] at pn
    exact ⟨.non, pn, law_pair_non sp (by simp; omega), .inl rfl⟩
end PM
namespace PM
open PySem L2 GL DL NR
open TL (tl numL joinL)
/-- the operation that a sign names -/
def opOf (c : Nat) : Option Op := if c = 82 then some .R else if c = 76 then some .L else if c = 65 then some .A else if c = 83 then some .S else none
theorem opOf_some {c : Nat} {o : Op} (h : opOf c = some o) : c = oc o := by
  unfold opOf at h
  split at h
  · cases h; assumption
  · split at h
    · cases h; assumption
    · split at h
      · cases h; assumption
      · split at h
        · cases h; assumption
        · cases h
theorem opOf_none {c : Nat} (h : opOf c = none) : c ≠ 82 ∧ c ≠ 76 ∧ c ≠ 65 ∧ c ≠ 83 := by
  unfold opOf at h
  refine ⟨?_, ?_, ?_, ?_⟩ <;> (rintro rfl; cases h)
/-- the run that a word says, if any -/
def wr : List Nat → Option Run
  | [] => none
  | c :: t => match opOf c with
    | none => none
    | some o => if t = [] then some (o, 1) else match rd t with
      | some n => if 1 < n then some (o, n) else none
      | none => none
/-- what the program makes of a word -/
def rawD (w : List Nat) : D := if w.length = 1 then .tup [.str (S w), .int 1] else if rd w.tail = some 1 then .non else .tup [.str (S (w.take 1)), oI (rd w.tail)]
theorem len_S (w : List Nat) (hl : w.length ≤ 1000000) : gLen (.str (S w)) = some (.val (.int (w.length : Int))) := by
  show giv ((S w).length ≤ 1000000) (.int ((S w).length : Int)) = _
  rw [giv_pos (by rw [S_len]; exact hl), S_len]
theorem tail_S (w : List Nat) (h : w.length < 1000000) : gSl (some 1) none (.str (S w)) = some (.val (.str (S w.tail))) := by
  cases w with
  | nil => rfl
  | cons c r => exact cut1_S c r (by simp only [List.length_cons] at h; omega)
theorem eq_oI (x : Option Int) (i : Int) : gEq (oI x) (.int i) = some (.val (.bl (decide (x = some i)))) := by
  cases x with
  | none =>
    show giv (eqOk .non = true ∧ eqOk (.int i) = true) (.bl (PyData.eqv (py .non) (py (.int i)))) = _
    rw [giv_pos ⟨by decide +kernel, by
      have := (Smp.int i)
      rfl⟩]
    simp [py, PyData.eqv]
  | some j =>
    show some (Giv.val (D.bl (j == i))) = _
    by_cases h : j = i
    · subst h; simp
    · have h1 : (j == i) = false := by simpa using h
      have h2 : ¬ some j = some i := fun z => h (Option.some.inj z)
      rw [h1, decide_eq_false h2]
theorem run_raw {w : List Nat} (hl : w.length ≤ 560) : M_run_in [.str (S w)] = .ok (.sh (rawD w)) := by
  have ln := len_S w (by omega)
  have ts := tail_S w (by omega)
  have t1 := take1_S w (by omega)
  have hr := rd_prog (l := w.tail) (by rw [List.length_tail]; omega)
  have eq1 := eq_oI (rd w.tail) 1
  unfold M_run_in rawD
  rw [body_eq]
  by_cases h1 : w.length = 1
  · have hb : ((w.length : Int) == 1) = true := by rw [h1]; rfl
    rw [if_pos h1]
    simp [ln, h1]
  · have hb : ¬ ((w.length : Int) = 1) := by omega
    rw [if_neg h1]
    generalize (w.length : Int) = LN at *
    by_cases h2 : rd w.tail = some 1
    · rw [decide_eq_true h2] at eq1
      rw [if_pos h2]
      generalize oI (rd w.tail) = X at *
      generalize S w = SW at *
      simp [ln, hb, ts, hr, eq1]
    · rw [decide_eq_false h2] at eq1
      rw [if_neg h2]
      generalize oI (rd w.tail) = X at *
      generalize S (w.take 1) = S1 at *
      generalize S w = SW at *
      simp [ln, hb, ts, t1, hr, eq1]
theorem flat_ops (x : Str) : gIn false (.str x) (.tup [.str "R", .str "L", .str "A", .str "S"]) = some (.val (.bl (inD (.str x) [.str "R", .str "L", .str "A", .str "S"]))) := rfl
theorem S_comm (a b : Str) : (a == b) = (b == a) := by
  rw [← SX.S_tl a, ← SX.S_tl b, S_beq, S_beq]
  exact BEq.comm
theorem lit_R : ("R" : Str) = S [82] := TL.ext_tl (by rw [tl_S]; decide +kernel)
theorem lit_L : ("L" : Str) = S [76] := TL.ext_tl (by rw [tl_S]; decide +kernel)
theorem lit_A : ("A" : Str) = S [65] := TL.ext_tl (by rw [tl_S]; decide +kernel)
theorem lit_S : ("S" : Str) = S [83] := TL.ext_tl (by rw [tl_S]; decide +kernel)
theorem in_ops (x : Str) : inD (.str x) [.str "R", .str "L", .str "A", .str "S"] = (x == S [82] || (x == S [76] || (x == S [65] || (x == S [83] || false)))) := by
  rw [lit_R, lit_L, lit_A, lit_S, S_comm x, S_comm x, S_comm x, S_comm x]
  rfl
theorem in_op1 (c : Nat) : inD (.str (S [c])) [.str "R", .str "L", .str "A", .str "S"] = (opOf c).isSome := by
  rw [in_ops, S_beq, S_beq, S_beq, S_beq]
  cases h : opOf c with
  | none =>
    obtain ⟨h1, h2, h3, h4⟩ := opOf_none h
    simp [h1, h2, h3, h4]
  | some o =>
    rw [opOf_some h]
    cases o <;> simp [oc]
theorem in_op0 : inD (.str (S [])) [.str "R", .str "L", .str "A", .str "S"] = false := by
  rw [in_ops, S_beq, S_beq, S_beq, S_beq]
  rfl
theorem is_run_str (x : Str) (n : Int) : M_is_run [.tup [.str x, .int n]] = .ok (.sh (.bl (decide (1 ≤ n) && inD (.str x) [.str "R", .str "L", .str "A", .str "S"]))) := by
  have e := is_whole_eq (noObj_int n)
  have i1 : gIsi .str (.str x) = some (.val (.bl true)) := rfl
  have i2 := flat_ops x
  generalize inD (.str x) [.str "R", .str "L", .str "A", .str "S"] = k at *
  unfold M_is_run
  rw [body_eq]
  by_cases hn : n < 1
  · have : decide (1 ≤ n) = false := decide_eq_false (by omega)
    simp [e, isWhole, hn, this]
  · have : decide (1 ≤ n) = true := decide_eq_true (by omega)
    simp [e, isWhole, hn, i1, i2, this]
theorem is_run_strN (x : Str) : M_is_run [.tup [.str x, .non]] = .ok (.sh (.bl false)) := by
  have e := is_whole_eq (d := .non) rfl
  unfold M_is_run
  rw [body_eq]
  simp [e, isWhole]
theorem is_run_N : M_is_run [.non] = .ok (.sh (.bl false)) := by
  unfold M_is_run
  rw [body_eq]
  simp
theorem raw_cons (c : Nat) (t : List Nat) : rawD (c :: t) = if t = [] then .tup [.str (S [c]), .int 1] else if rd t = some 1 then .non else .tup [.str (S [c]), oI (rd t)] := by
  unfold rawD
  cases t with
  | nil => rfl
  | cons d r => rw [if_neg (show ¬ (c :: d :: r).length = 1 by simp only [List.length_cons]; omega), if_neg (show ¬ (d :: r) = [] by simp)]; rfl
theorem raw_good {w : List Nat} {r : Run} (h : wr w = some r) : rawD w = runD r ∧ 1 ≤ r.2 := by
  cases w with
  | nil => cases h
  | cons c t =>
    unfold wr at h; dsimp only at h
    cases ho : opOf c with
    | none => rw [ho] at h; cases h
    | some o =>
      rw [ho] at h
      have hs : S [c] = o.s := by rw [op_S, opOf_some ho]
      rw [raw_cons]
      dsimp only at h
      by_cases ht : t = []
      · rw [if_pos ht] at h ⊢
        cases h
        exact ⟨by rw [hs]; rfl, Int.le_refl 1⟩
      · rw [if_neg ht] at h ⊢
        cases hr : rd t with
        | none => rw [hr] at h; cases h
        | some n =>
          rw [hr] at h
          dsimp only at h
          split at h
          · rename_i hn
            cases h
            rw [if_neg (by intro z; have := Option.some.inj z; omega), hs]
            exact ⟨rfl, by show 1 ≤ n; omega⟩
          · cases h
theorem raw_bad {w : List Nat} (h : wr w = none) : M_is_run [rawD w] = .ok (.sh (.bl false)) := by
  cases w with
  | nil =>
    have : rawD [] = .tup [.str (S []), .non] := rfl
    rw [this]; exact is_run_strN _
  | cons c t =>
    rw [raw_cons]
    by_cases ht : t = []
    · rw [if_pos ht, is_run_str, in_op1]
      unfold wr at h; dsimp only at h
      cases ho : opOf c with
      | none => rfl
      | some o => rw [ho] at h; dsimp only at h; rw [if_pos ht] at h; cases h
    · rw [if_neg ht]
      split
      · exact is_run_N
      · rename_i h1
        cases hr : rd t with
        | none => exact is_run_strN _
        | some n =>
          show M_is_run [.tup [.str (S [c]), .int n]] = _
          rw [is_run_str, in_op1]
          unfold wr at h; dsimp only at h
          cases ho : opOf c with
          | none => simp
          | some o =>
            rw [ho] at h
            dsimp only at h
            rw [if_neg ht, hr] at h
            dsimp only at h
            split at h
            · cases h
            · have : n ≠ 1 := fun z => h1 (by rw [hr, z])
              have : decide (1 ≤ n) = false := decide_eq_false (by omega)
              rw [this]; rfl
/-- the runs that words say, behind the operation p -/
def seqOf : Option Op → List (List Nat) → Option (List Run)
  | _, [] => some []
  | p, w :: ws => match wr w with
    | none => none
    | some r => if p = some r.1 then none else match seqOf (some r.1) ws with
      | none => none
      | some rs => some (r :: rs)
theorem seq_some : ∀ {ws : List (List Nat)} {p : Option Op} {rs : List Run}, seqOf p ws = some rs → ws.map rawD = rs.map runD ∧ Alt p rs ∧ rs.length = ws.length
  | [], p, rs, h => by cases h; exact ⟨rfl, trivial, rfl⟩
  | w :: ws, p, rs, h => by
    unfold seqOf at h
    cases hw : wr w with
    | none => rw [hw] at h; cases h
    | some r =>
      rw [hw] at h
      dsimp only at h
      split at h
      · cases h
      · rename_i hp
        cases hs : seqOf (some r.1) ws with
        | none => rw [hs] at h; cases h
        | some rs' =>
          rw [hs] at h
          cases h
          obtain ⟨h1, h2, h3⟩ := seq_some hs
          obtain ⟨g1, g2⟩ := raw_good hw
          exact ⟨by rw [List.map_cons, List.map_cons, h1, g1], ⟨hp, g2, h2⟩, by simp [h3]⟩
theorem seq_none : ∀ {ws : List (List Nat)} {p : Option Op}, seqOf p ws = none → ∃ rs x r, ws.map rawD = rs.map runD ++ x :: r ∧ Alt p rs ∧ (M_is_run [x] = .ok (.sh (.bl false)) ∨ ∃ o n, x = runD (o, n) ∧ 1 ≤ n ∧ lastOp p rs = some o)
  | [], p, h => by cases h
  | w :: ws, p, h => by
    unfold seqOf at h
    cases hw : wr w with
    | none => exact ⟨[], rawD w, ws.map rawD, rfl, trivial, .inl (raw_bad hw)⟩
    | some r =>
      obtain ⟨g1, g2⟩ := raw_good hw
      rw [hw] at h
      dsimp only at h
      split at h
      · rename_i hp
        exact ⟨[], runD r, ws.map rawD, by rw [List.map_cons, g1]; rfl, trivial, .inr ⟨r.1, r.2, rfl, g2, hp⟩⟩
      · rename_i hp
        cases hs : seqOf (some r.1) ws with
        | some rs' => rw [hs] at h; cases h
        | none =>
          obtain ⟨rs, x, t, h1, h2, h3⟩ := seq_none hs
          exact ⟨r :: rs, x, t, by rw [List.map_cons, h1, g1]; rfl, ⟨hp, g2, h2⟩, h3⟩
end PM
namespace PM
open PySem L2 GL DL NR
open TL (tl numL joinL)
def oS : Option (List Run) → D
  | none => .non
  | some rs => .lst (rs.map runD)
theorem comp_raw (s0 s1 : DL.Slot) : ∀ ws : List (List Nat), (∀ x ∈ ws, x.length ≤ 560) → compM (bName 2) bYes (eCall M_run_in (eCons (eVar 2) eNil)) [s0, s1, .un] (ws.map fun x => D.str (S x)) = .ok (ws.map rawD)
  | [], _ => rfl
  | w :: r, h => by
    have e := comp_raw s0 s1 r fun x hx => h x (List.mem_cons_of_mem _ hx)
    have h2 := run_raw (h w List.mem_cons_self)
    rw [List.map_cons, compM, List.map_cons]
    generalize rawD w = W at *
    simp [h2, e]
theorem is_seq {ws : List (List Nat)} : M_is_sequence [.lst (ws.map rawD)] = .ok (.sh (.bl (seqOf none ws).isSome)) := by
  cases h : seqOf none ws with
  | some rs =>
    obtain ⟨h1, h2, _⟩ := seq_some h
    have wn := wrong_none h2
    rw [h1]
    unfold M_is_sequence
    rw [body_eq]
    generalize rs.map runD = L at *
    simp [wn]
  | none =>
    obtain ⟨rs, x, t, h1, h2, h3⟩ := seq_none h
    have wn := wrong_some (r := t) h2 h3
    have ni : DL.isNon (.int (rs.length : Int)) = false := rfl
    rw [h1]
    unfold M_is_sequence
    rw [body_eq]
    generalize rs.map runD ++ x :: t = L at *
    simp [wn, ni]
theorem prog_seq {z : Str} {ws : List (List Nat)} (hz : (z == S [45]) = false) (sp : gSplit (.str z) (.str (S [32])) = some (.newL (ws.map fun x => D.str (S x)))) (hw : ∀ x ∈ ws, x.length ≤ 560) (hl : ws.length < 1000000) :
    M_sequence_in_v2 [.str z] = .ok (.sh (oS (seqOf none ws))) := by
  have cm := comp_raw (.sh (.str z)) .un ws hw
  have is := is_seq (ws := ws)
  have fin : (if (seqOf none ws).isSome = true then D.lst (ws.map rawD) else .non) = oS (seqOf none ws) := by
    cases h : seqOf none ws with
    | none => rfl
    | some rs => rw [(seq_some h).1]; rfl
  have ln : (ws.map fun x => D.str (S x)).length < 1000000 := by rw [List.length_map]; exact hl
  rw [← fin]
  unfold M_sequence_in_v2
  rw [body_eq, lit_minus, lit_sp]
  generalize ws.map rawD = L at *
  generalize (ws.map fun x => D.str (S x)) = WL at *
  cases hk : (seqOf none ws).isSome <;> rw [hk] at is <;> simp [hz, eM1, sp, comp_eq, wipeE, cm, ln, is]
theorem prog_dash : M_sequence_in_v2 [.str (S [45])] = .ok (.own []) := by
  have : (S [45] == S [45]) = true := by rw [S_beq]; rfl
  unfold M_sequence_in_v2
  rw [body_eq, lit_minus, lit_sp]
  simp [this]
def cntD (w : List Nat) : D := if 1 < w.length then oI (rd w.tail) else .int 1
theorem in_lst (x : Str) : gIn true (.str x) (.lst [.str "R", .str "L", .str "A", .str "S"]) = some (.val (.bl (!inD (.str x) [.str "R", .str "L", .str "A", .str "S"]))) := rfl
theorem cnt_step (w : List Nat) (hl : w.length ≤ 560) (s0 s1 s3 : DL.Slot) : eIf (bB (eOp gGt (eUn gLen (eVar 2)) (eC (.int 1)))) (eCall M_law_integer_of (eCons (eSl (eVar 2) (pS (eC (.int 1))) pN) eNil)) (eC (.int 1)) [s0, s1, .sh (.str (S w)), s3] = .ok (cntD w) := by
  have ln := len_S w (by omega)
  have ts := tail_S w (by omega)
  have hr := rd_law (l := w.tail) (by rw [List.length_tail]; omega)
  unfold cntD
  by_cases h : 1 < w.length
  · have h2 : decide ((1 : Int) < (w.length : Int)) = true := decide_eq_true (by omega)
    rw [if_pos h]
    generalize oI (rd w.tail) = X at *
    generalize (w.length : Int) = LN at *
    generalize S w = SW at *
    simp [ln, ts, hr, h2]
  · have h2 : decide ((1 : Int) < (w.length : Int)) = false := decide_eq_false (by omega)
    rw [if_neg h]
    generalize (w.length : Int) = LN at *
    generalize S w = SW at *
    simp [ln, h2]
theorem turn_bad {w : List Nat} (hl : w.length ≤ 560) (h : wr w = none) (s0 s1 s3 : DL.Slot) : B_law_runs_of_1 [s0, s1, .sh (.str (S w)), s3] = .rt (.sh .non) := by
  have cs := cnt_step w hl s0 s1 s3
  have t1 := take1_S w (by omega)
  have il := in_lst (S (w.take 1))
  have ln := len_S w (by omega)
  unfold B_law_runs_of_1
  refine seq_step (Γ' := [s0, s1, .sh (.str (S w)), .sh (cntD w)]) (by unfold mSet; rw [show DL.Slot.sh (cntD w) = DL.Slot.sh (cntD w) from rfl, cs]; rfl) ?_
  cases w with
  | nil =>
    rw [show List.take 1 ([] : List Nat) = [] from rfl, in_op0] at il
    rw [show List.take 1 ([] : List Nat) = [] from rfl] at t1
    generalize cntD [] = C at *
    generalize S [] = SW at *
    simp [mSeq, t1, il]
  | cons c t =>
    rw [show List.take 1 (c :: t) = [c] from rfl, in_op1] at il
    rw [show List.take 1 (c :: t) = [c] from rfl] at t1
    unfold wr at h; dsimp only at h
    cases ho : opOf c with
    | none =>
      rw [ho] at il
      have il : gIn true (.str (S [c])) (.lst [.str "R", .str "L", .str "A", .str "S"]) = some (.val (.bl true)) := il
      generalize cntD (c :: t) = C at *
      generalize S (c :: t) = SW at *
      generalize S [c] = SC at *
      simp [mSeq, t1, il]
    | some o =>
      rw [ho] at il h
      have il : gIn true (.str (S [c])) (.lst [.str "R", .str "L", .str "A", .str "S"]) = some (.val (.bl false)) := il
      dsimp only at h
      by_cases ht : t = []
      · rw [if_pos ht] at h; cases h
      · rw [if_neg ht] at h
        have hlen : 1 < (c :: t).length := by
          cases t with
          | nil => exact absurd rfl ht
          | cons _ _ => simp only [List.length_cons]; omega
        have hc : cntD (c :: t) = oI (rd t) := by unfold cntD; rw [if_pos hlen]; rfl
        have gl : decide ((1 : Int) < ((c :: t).length : Int)) = true := decide_eq_true (by omega)
        rw [hc] at *
        cases hr : rd t with
        | none =>
          have nn : DL.isNon (oI none) = true := rfl
          generalize ((c :: t).length : Int) = LN at *
          generalize oI none = C at *
          generalize S (c :: t) = SW at *
          generalize S [c] = SC at *
          simp [mSeq, t1, il, nn]
        | some n =>
          rw [hr] at h
          dsimp only at h
          split at h
          · cases h
          · rename_i hn
            have nn : DL.isNon (.int n) = false := rfl
            rw [show oI (some n) = .int n from rfl] at *
            generalize ((c :: t).length : Int) = LN at *
            generalize S (c :: t) = SW at *
            generalize S [c] = SC at *
            by_cases h1 : n < 1
            · simp [mSeq, t1, il, nn, h1]
            · have h2 : n = 1 := by omega
              subst h2
              simp [mSeq, t1, il, nn, ln, gl]
theorem turn_good {w : List Nat} (hl : w.length ≤ 560) {r : Run} (h : wr w = some r) (s0 s3 : DL.Slot) {acc : List Run} (ha : acc.length < 1000) :
    B_law_runs_of_1 [s0, .own (acc.map runD), .sh (.str (S w)), s3] = if lastOp none acc = some r.1 then .rt (.sh .non) else .nx [s0, .own ((acc ++ [r]).map runD), .sh (.str (S w)), .sh (.int r.2)] := by
  have cs := cnt_step w hl s0 (.own (acc.map runD)) s3
  have t1 := take1_S w (by omega)
  have il := in_lst (S (w.take 1))
  have ln := len_S w (by omega)
  obtain ⟨_, ge1⟩ := raw_good h
  cases w with
  | nil => cases h
  | cons c t =>
    have ix := ix0_S c t (by simp only [List.length_cons] at hl; omega)
    rw [show List.take 1 (c :: t) = [c] from rfl, in_op1] at il
    rw [show List.take 1 (c :: t) = [c] from rfl] at t1
    unfold wr at h; dsimp only at h
    cases ho : opOf c with
    | none => rw [ho] at h; cases h
    | some o =>
      rw [ho] at il h
      have il : gIn true (.str (S [c])) (.lst [.str "R", .str "L", .str "A", .str "S"]) = some (.val (.bl false)) := il
      have hs : S [c] = o.s := by rw [op_S, opOf_some ho]
      dsimp only at h
      have key : r.1 = o ∧ cntD (c :: t) = .int r.2 ∧ (decide ((1 : Int) < ((c :: t).length : Int)) = false ∨ (decide ((1 : Int) < ((c :: t).length : Int)) = true ∧ r.2 ≠ 1)) := by
        by_cases ht : t = []
        · rw [if_pos ht] at h
          cases h
          subst ht
          exact ⟨rfl, rfl, .inl rfl⟩
        · rw [if_neg ht] at h
          have hlen : 1 < (c :: t).length := by
            cases t with
            | nil => exact absurd rfl ht
            | cons _ _ => simp only [List.length_cons]; omega
          cases hr : rd t with
          | none => rw [hr] at h; cases h
          | some n =>
            rw [hr] at h
            dsimp only at h
            split at h
            · rename_i hn
              cases h
              refine ⟨rfl, ?_, .inr ⟨decide_eq_true (by omega), by show n ≠ 1; omega⟩⟩
              unfold cntD
              rw [if_pos hlen]
              show oI (rd t) = _
              rw [hr]; rfl
            · cases h
      obtain ⟨k1, k2, k3⟩ := key
      obtain ⟨ro, n⟩ := r
      dsimp only at k1 k2 k3 ge1 ⊢
      subst k1
      rw [hs] at ix
      rw [k2] at cs
      unfold B_law_runs_of_1
      refine seq_step (Γ' := [s0, .own (acc.map runD), .sh (.str (S (c :: t))), .sh (.int n)]) (by unfold mSet; rw [cs]; rfl) ?_
      have nn : DL.isNon (.int n) = false := rfl
      have lt : ¬ n < 1 := by omega
      refine seq_step (Γ' := [s0, .own (acc.map runD), .sh (.str (S (c :: t))), .sh (.int n)]) ?_ ?_
      · generalize ((c :: t).length : Int) = LN at *
        generalize S (c :: t) = SW at *
        rcases k3 with k3 | ⟨k3, k4⟩
        · simp [t1, il, nn, lt, ln, k3]
        · simp [t1, il, nn, lt, ln, k3, k4]
      · generalize ((c :: t).length : Int) = LN at *
        generalize S (c :: t) = SW at *
        have fin : D.tup [.str ro.s, .int n] = runD (ro, n) := rfl
        rcases snoc_or acc with rfl | ⟨q, ⟨y, z⟩, rfl⟩
        · have e0 : gNe (.lst []) (.lst []) = some (.val (.bl false)) := rfl
          rw [if_neg (by show ¬ (none = some ro); intro h; cases h)]
          simp [mSeq, e0, ix, fin]
        · have gl : gIx (.lst (q.map runD ++ [runD (y, z)])) (.int (-1)) = some (.val (runD (y, z))) := gIx_last _ _
          have e2 : gIx (runD (y, z)) (.int 0) = some (.val (.str y.s)) := tup_ix0 _ _
          have en : gNe (.lst (q.map runD ++ [runD (y, z)])) (.lst []) = some (.val (.bl true)) := by
            show some (Giv.val (.bl _)) = _
            simp
          have ll : (q.map runD ++ [runD (y, z)]).length < 1000000 := by simp at ha ⊢; omega
          have eq := eq_bef y (some ro)
          rw [show befD (some ro) = .str ro.s from rfl] at eq
          rw [lastOp_app]
          rw [List.map_append, List.map_append, List.map_cons, List.map_nil, List.map_cons, List.map_nil]
          generalize hL : q.map runD ++ [runD (y, z)] = L at *
          by_cases hy : some y = some ro
          · have hy2 : some ro = some y := hy.symm
            rw [decide_eq_true hy2] at eq
            rw [if_pos hy]
            simp [mSeq, gl, e2, en, ix, eq, -gEq_str]
          · have hy2 : ¬ some ro = some y := fun z => hy z.symm
            rw [decide_eq_false hy2] at eq
            rw [if_neg hy]
            simp [mSeq, gl, e2, en, ix, eq, ll, fin, -gEq_str]
            rw [← hL]; simp
theorem runs_loop : ∀ (ws : List (List Nat)) (acc : List Run) (s0 s2 s3 : DL.Slot), (∀ x ∈ ws, x.length ≤ 560) → acc.length + ws.length < 1000 →
    match seqOf (lastOp none acc) ws with
    | none => DL.forM (bName 2) B_law_runs_of_1 (ws.map fun x => D.str (S x)) [s0, .own (acc.map runD), s2, s3] = .rt (.sh .non)
    | some rs => ∃ s2' s3', DL.forM (bName 2) B_law_runs_of_1 (ws.map fun x => D.str (S x)) [s0, .own (acc.map runD), s2, s3] = .nx [s0, .own ((acc ++ rs).map runD), s2', s3']
  | [], acc, s0, s2, s3, _, _ => ⟨s2, s3, by rw [List.append_nil]; rfl⟩
  | w :: ws, acc, s0, s2, s3, hw, hl => by
    have hlw := hw w List.mem_cons_self
    have fc : DL.forM (bName 2) B_law_runs_of_1 ((w :: ws).map fun x => D.str (S x)) [s0, .own (acc.map runD), s2, s3] = _ := forM_cons _ _ _ _ _ [s0, .own (acc.map runD), .sh (.str (S w)), s3] rfl
    rw [fc]
    unfold seqOf
    cases hr : wr w with
    | none =>
      dsimp only
      rw [turn_bad hlw hr]; rfl
    | some r =>
      have tg := turn_good hlw hr s0 s3 (acc := acc) (by simp only [List.length_cons] at hl; omega)
      by_cases hp : lastOp none acc = some r.1
      · rw [if_pos hp] at tg
        dsimp only
        rw [if_pos hp, tg]; rfl
      · rw [if_neg hp] at tg
        have ih := runs_loop ws (acc ++ [r]) s0 (.sh (.str (S w))) (.sh (.int r.2)) (fun x hx => hw x (List.mem_cons_of_mem _ hx)) (by simp only [List.length_append, List.length_cons, List.length_nil] at hl ⊢; omega)
        have hlast : lastOp none (acc ++ [r]) = some r.1 := lastOp_app acc none r.1 r.2
        rw [hlast] at ih
        dsimp only
        rw [if_neg hp, tg]
        cases hs : seqOf (some r.1) ws with
        | none => rw [hs] at ih; exact ih
        | some rs =>
          rw [hs] at ih
          obtain ⟨a, b, e⟩ := ih
          refine ⟨a, b, ?_⟩
          rw [List.append_assoc] at e
          exact e
end PM
namespace PM
open PySem L2 GL DL NR
open TL (tl numL joinL)
theorem law_seq {z : Str} {ws : List (List Nat)} (hz : (z == S [45]) = false) (sp : gSplit (.str z) (.str (S [32])) = some (.newL (ws.map fun x => D.str (S x)))) (hw : ∀ x ∈ ws, x.length ≤ 560) (hl : ws.length < 1000) :
    (M_law_runs_of [.str z]).bind slotD = .ok (oS (seqOf none ws)) := by
  have lp := runs_loop ws [] (.sh (.str z)) .un .un hw (by simpa using hl)
  rw [show lastOp none [] = none from rfl, show ([] : List Run).map runD = [] from rfl] at lp
  unfold M_law_runs_of
  rw [body_eq, lit_minus, lit_sp]
  generalize (ws.map fun x => D.str (S x)) = WL at *
  cases hs : seqOf none ws with
  | none =>
    rw [hs] at lp
    dsimp only at lp
    simp [mSeq, hz, eM1, sp, lp, mRetO, oS]
  | some rs =>
    rw [hs] at lp
    obtain ⟨a, b, e⟩ := lp
    rw [List.nil_append] at e
    have o : oS (some rs) = .lst (rs.map runD) := rfl
    rw [o]
    generalize rs.map runD = RL at *
    simp [mSeq, hz, eM1, sp, e, mRetO]
theorem law_dash : (M_law_runs_of [.str (S [45])]).bind slotD = .ok (.lst []) := by
  have : (S [45] == S [45]) = true := by rw [S_beq]; rfl
  unfold M_law_runs_of
  rw [body_eq, lit_minus, lit_sp]
  simp [this, mRetO, DL.forM]
/-- the runs that a text says -/
theorem seq_both (l : List Nat) (hl : l.length ≤ 560) : ∃ r : Option (List Run), (M_sequence_in_v2 [.str (S l)]).bind slotD = .ok (oS r) ∧ (M_law_runs_of [.str (S l)]).bind slotD = .ok (oS r) ∧ ∀ rs, r = some rs → rs.length ≤ 600 ∧ ∀ q ∈ rs, q.2.natAbs < 2 ^ 1900 := by
  by_cases h : l = [45]
  · subst h
    exact ⟨some [], by rw [prog_dash]; rfl, law_dash, fun rs h => by cases h; exact ⟨by decide, fun q hq => by cases hq⟩⟩
  · have hz : (S l == S [45]) = false := by rw [S_beq]; simpa using h
    obtain ⟨p, ps, hf, rfl⟩ := parts_of 32 l
    have pl := part_len (m := 32) (p := p) (ps := ps)
    have hpl : ∀ x ∈ p :: ps, x.length ≤ 560 := fun x hx => Nat.le_trans (pl x hx) hl
    have sp := split_parts (m := 32) (by decide) hf (by omega)
    have hlen : (p :: ps).length ≤ 561 := by
      have h1 := sum_ge ps
      rw [join_len] at hl
      rw [List.length_cons]; omega
    refine ⟨seqOf none (p :: ps), by rw [prog_seq hz sp hpl (by omega)]; rfl, law_seq hz sp hpl (by omega), fun rs hr => ?_⟩
    obtain ⟨_, _, h3⟩ := seq_some hr
    refine ⟨by omega, ?_⟩
    have key : ∀ (ws : List (List Nat)) (p : Option Op) (rs : List Run), (∀ x ∈ ws, x.length ≤ 560) → seqOf p ws = some rs → ∀ q ∈ rs, q.2.natAbs < 2 ^ 1900 := by
      intro ws
      induction ws with
      | nil => intro p rs _ h q hq; cases h; cases hq
      | cons w ws ih =>
        intro p rs hw h q hq
        unfold seqOf at h
        cases hx : wr w with
        | none => rw [hx] at h; cases h
        | some r =>
          rw [hx] at h
          dsimp only at h
          split at h
          · cases h
          · cases hs : seqOf (some r.1) ws with
            | none => rw [hs] at h; cases h
            | some rs' =>
              rw [hs] at h
              cases h
              rcases List.mem_cons.mp hq with rfl | hq
              · have hlw := hw w List.mem_cons_self
                cases w with
                | nil => cases hx
                | cons c t =>
                  unfold wr at hx; dsimp only at hx
                  cases ho : opOf c with
                  | none => rw [ho] at hx; cases hx
                  | some o =>
                    rw [ho] at hx
                    dsimp only at hx
                    split at hx
                    · cases hx; exact Nat.one_lt_two_pow (by decide)
                    · cases hr2 : rd t with
                      | none => rw [hr2] at hx; cases hx
                      | some n =>
                        rw [hr2] at hx
                        dsimp only at hx
                        split at hx
                        · cases hx
                          exact (rd_val (by simp only [List.length_cons] at hlw; omega) hr2).1
                        · cases hx
              · exact ih _ _ (fun x hx => hw x (List.mem_cons_of_mem _ hx)) hs q hq
    exact key _ _ _ hpl hr
/-- a parsed answer -/
def ansR (R : D) (z : Str) : Res D := if DL.isNon R = true then .exc "InvalidText" (.str z) else .ok R
section
variable {b : Int} {z : Str} {R : D}
theorem pa_num (h : M_number_in [.int b, .str z] = .ok (.sh R)) : (M_parse_number [.int b, .str z]).bind slotD = ansR R z := by
  unfold M_parse_number ansR
  rw [body_eq]
  cases hn : DL.isNon R <;> simp [h, hn]
theorem pa_state (h : M_pair_in [.int b, .str z, .str (S [64])] = .ok (.sh R)) : (M_parse_state [.int b, .str z]).bind slotD = ansR R z := by
  unfold M_parse_state
  rw [body_eq, lit_at]
  have : (M_parse_pair [.int b, .str z, .str (S [64])]).bind slotD = ansR R z := by
    unfold M_parse_pair ansR
    rw [body_eq]
    cases hn : DL.isNon R <;> simp [h, hn]
  unfold ansR at *
  cases hn : DL.isNon R <;> rw [hn] at this <;> simp [this]
theorem pa_effect (h : M_pair_in [.int b, .str z, .str (S [58])] = .ok (.sh R)) : (M_parse_effect [.int b, .str z]).bind slotD = ansR R z := by
  unfold M_parse_effect
  rw [body_eq, lit_col]
  have : (M_parse_pair [.int b, .str z, .str (S [58])]).bind slotD = ansR R z := by
    unfold M_parse_pair ansR
    rw [body_eq]
    cases hn : DL.isNon R <;> simp [h, hn]
  unfold ansR at *
  cases hn : DL.isNon R <;> rw [hn] at this <;> simp [this]
theorem pa_seq (h : (M_sequence_in_v2 [.str z]).bind slotD = .ok R) : (M_parse_sequence_v2 [.str z]).bind slotD = ansR R z := by
  unfold M_parse_sequence_v2 ansR
  rw [body_eq]
  cases hn : DL.isNon R <;> simp [h, hn]
end
end PM
namespace PM
open PySem L2 GL DL NR
open TL (tl numL joinL)
theorem reprChar_ok (q : Nat) (hq : q = 34 ∨ q = 39) : ∀ c, c < 128 → (∀ d ∈ Builtin.Str.reprChar q c, d < 200) ∧ (Builtin.Str.reprChar q c).length ≤ 4 := by
  rcases hq with rfl | rfl
  · decide +kernel
  · decide +kernel
theorem repr_fold (q : Nat) (hq : q = 34 ∨ q = 39) : ∀ (l : List Nat) (acc : Array Nat), (∀ c ∈ l, c < 128) → (∀ c ∈ acc.toList, c < 200) →
    (∀ c ∈ (l.foldl (fun out c => out ++ (Builtin.Str.reprChar q c).toArray) acc).toList, c < 200) ∧ (l.foldl (fun out c => out ++ (Builtin.Str.reprChar q c).toArray) acc).size ≤ acc.size + 4 * l.length
  | [], acc, _, h => ⟨h, by simp⟩
  | c :: r, acc, h, ha => by
    obtain ⟨c1, c2⟩ := reprChar_ok q hq c (h c List.mem_cons_self)
    obtain ⟨i1, i2⟩ := repr_fold q hq r (acc ++ (Builtin.Str.reprChar q c).toArray) (fun d hd => h d (List.mem_cons_of_mem _ hd)) (fun d hd => by
      rw [Array.toList_append, List.mem_append] at hd
      rcases hd with hd | hd
      · exact ha d hd
      · exact c1 d (by simpa using hd))
    refine ⟨i1, ?_⟩
    simp only [List.foldl_cons, List.length_cons]
    simp only [Array.size_append, List.size_toArray] at i2
    omega
theorem repr_S {l : List Nat} (h : ∀ c ∈ l, c < 128) (hl : l.length ≤ 560) : ∃ a : List Nat, gRepr (.str (S l)) = some (.val (.str (S a))) ∧ (∀ c ∈ a, c < 200) ∧ a.length ≤ 2242 := by
  have hq : reprQuote (S l) = 34 ∨ reprQuote (S l) = 39 := by unfold reprQuote; split <;> simp
  have sh : Shown (.str (S l)) := shown_sw' (k := 0) (b := 560) (by unfold DL.plain; rfl) (by
    unfold py
    exact (Sw.str (x := S l) (List.all_eq_true.mpr fun c hc => decide_eq_true (by have := h c hc; omega))).up (Nat.le_refl _) (by simpa using hl)) (by decide) (by decide)
  have e : (pyR (.str (S l))).shown = reprText (S l) := PyData.shown_str (S l)
  have rp := gRepr_of sh
  rw [e] at rp
  obtain ⟨f1, f2⟩ := repr_fold (reprQuote (S l)) hq l #[reprQuote (S l)] h (fun c hc => by
    have : c = reprQuote (S l) := by simpa using hc
    omega)
  have tx : reprText (S l) = S ((l.foldl (fun out c => out ++ (Builtin.Str.reprChar (reprQuote (S l)) c).toArray) #[reprQuote (S l)]).toList ++ [reprQuote (S l)]) := by
    unfold reprText
    rw [← Array.foldl_toList]
    refine TL.ext_tl ?_
    rw [tl_S]
    show Array.toList (Array.push _ _) = _
    rw [Array.toList_push]
  refine ⟨_, by rw [rp, tx], fun c hc => ?_, ?_⟩
  · rcases List.mem_append.mp hc with hc | hc
    · exact f1 c hc
    · have : c = reprQuote (S l) := by simpa using hc
      omega
  · rw [List.length_append]
    simp only [List.length_cons, List.length_nil, Array.length_toList]
    have : (#[reprQuote (S l)] : Array Nat).size = 1 := rfl
    omega
/-- an invalid text told -/
def odd (t : Str) : D := .lst [.str "text", .str t, .bl true, .bl false]
theorem odd_shown {a : List Nat} (h : ∀ c ∈ a, c < 200) (hl : a.length ≤ 2242) : Shown (odd (S a)) := by
  have sa : Sw (.str (S a)) 0 2242 := (Sw.str (x := S a) (List.all_eq_true.mpr fun c hc => decide_eq_true (by have := h c hc; omega))).up (Nat.le_refl _) (by simpa using hl)
  refine shown_sw' (k := 1) (b := 2300) (by simp [odd, DL.plain, plainAll]) ?_ (by decide) (by decide)
  have := (Sw.list (.cons (Sw.str (x := "text") (by decide +kernel)) (.cons sa (.cons (Sw.bool true) (.cons (Sw.bool false) .nil))))).up (k' := 1) (b' := 2300) (by decide) (by decide +kernel)
  simpa [odd, py, pyAll] using this
def told (R : D) (t : Str) : D := if DL.isNon R = true then odd t else R
theorem door3_0 {M1 M2 M3 : List D → Res DL.Slot} {mi : MD} {mas : ML} {Γ : En} (h : mi Γ = .ok (.int 0)) : eDoor3 M1 M2 M3 mi mas Γ = (mas Γ).bind fun ds => (M1 ds).bind slotD := by unfold eDoor3; rw [h]; rfl
theorem door3_1 {M1 M2 M3 : List D → Res DL.Slot} {mi : MD} {mas : ML} {Γ : En} (h : mi Γ = .ok (.int 1)) : eDoor3 M1 M2 M3 mi mas Γ = (mas Γ).bind fun ds => (M2 ds).bind slotD := by unfold eDoor3; rw [h]; rfl
theorem door3_2 {M1 M2 M3 : List D → Res DL.Slot} {mi : MD} {mas : ML} {Γ : En} (h : mi Γ = .ok (.int 2)) : eDoor3 M1 M2 M3 mi mas Γ = (mas Γ).bind fun ds => (M3 ds).bind slotD := by unfold eDoor3; rw [h]; rfl
/-- the answer of a door, or the error that it raises -/
def ansV (R v : D) : Res D := if DL.isNon R = true then .exc "InvalidText" v else .ok R
def theDoor : MD := eIf (bB (eOp gEq (eVar 0) (eC (.int 3)))) (eCall M_parse_sequence_v2 (eCons (eVar 2) eNil)) (eDoor3 M_parse_number M_parse_state M_parse_effect (eVar 0) (eCons (eVar 1) (eCons (eVar 2) eNil)))
theorem got_of {k b : Int} {v R : D} {t : Str} (hr : gRepr v = some (.val (.str t))) (hd : theDoor [.sh (.int k), .sh (.int b), .sh v, .sh .non, .un] = ansV R v) : M_law_got_v4 [.int k, .int b, v] = .ok (.sh (told R t)) := by
  unfold M_law_got_v4
  rw [body_eq]
  refine res_rt ?_
  refine seq_step (Γ' := [.sh (.int k), .sh (.int b), .sh v, .sh .non, .un]) (by simp) ?_
  refine seq_step (Γ' := [.sh (.int k), .sh (.int b), .sh v, .sh (told R t), .un]) ?_ ?_
  · unfold mTry mSet
    rw [show (eIf (bB (eOp gEq (eVar 0) (eC (.int 3)))) (eCall M_parse_sequence_v2 (eCons (eVar 2) eNil)) (eDoor3 M_parse_number M_parse_state M_parse_effect (eVar 0) (eCons (eVar 1) (eCons (eVar 2) eNil)))) = theDoor from rfl, hd]
    unfold ansV told odd
    cases hn : DL.isNon R
    · simp
    · simp [mHandle, behind, DL.clean, cleanS, mErrFld, mErrIsi, hr]
  · simp
theorem door_at {b : Int} {v : D} {R : D} : (∀ s4, (M_parse_number [.int b, v]).bind slotD = ansV R v → theDoor [.sh (.int 0), .sh (.int b), .sh v, .sh .non, s4] = ansV R v) ∧ (∀ s4, (M_parse_state [.int b, v]).bind slotD = ansV R v → theDoor [.sh (.int 1), .sh (.int b), .sh v, .sh .non, s4] = ansV R v) ∧ (∀ s4, (M_parse_effect [.int b, v]).bind slotD = ansV R v → theDoor [.sh (.int 2), .sh (.int b), .sh v, .sh .non, s4] = ansV R v) ∧ (∀ s4, (M_parse_sequence_v2 [v]).bind slotD = ansV R v → theDoor [.sh (.int 3), .sh (.int b), .sh v, .sh .non, s4] = ansV R v) := by
  refine ⟨fun s4 h => ?_, fun s4 h => ?_, fun s4 h => ?_, fun s4 h => ?_⟩
  · unfold theDoor
    have d := door3_0 (M1 := M_parse_number) (M2 := M_parse_state) (M3 := M_parse_effect) (mi := eVar 0) (mas := eCons (eVar 1) (eCons (eVar 2) eNil)) (Γ := [.sh (.int 0), .sh (.int b), .sh v, .sh .non, s4]) rfl
    have e : eCons (eVar 1) (eCons (eVar 2) eNil) [.sh (.int 0), .sh (.int b), .sh v, .sh .non, s4] = .ok [.int b, v] := rfl
    rw [e, bind_ok, h] at d
    unfold eIf
    rw [d]
    rfl
  · unfold theDoor
    have d := door3_1 (M1 := M_parse_number) (M2 := M_parse_state) (M3 := M_parse_effect) (mi := eVar 0) (mas := eCons (eVar 1) (eCons (eVar 2) eNil)) (Γ := [.sh (.int 1), .sh (.int b), .sh v, .sh .non, s4]) rfl
    have e : eCons (eVar 1) (eCons (eVar 2) eNil) [.sh (.int 1), .sh (.int b), .sh v, .sh .non, s4] = .ok [.int b, v] := rfl
    rw [e, bind_ok, h] at d
    unfold eIf
    rw [d]
    rfl
  · unfold theDoor
    have d := door3_2 (M1 := M_parse_number) (M2 := M_parse_state) (M3 := M_parse_effect) (mi := eVar 0) (mas := eCons (eVar 1) (eCons (eVar 2) eNil)) (Γ := [.sh (.int 2), .sh (.int b), .sh v, .sh .non, s4]) rfl
    have e : eCons (eVar 1) (eCons (eVar 2) eNil) [.sh (.int 2), .sh (.int b), .sh v, .sh .non, s4] = .ok [.int b, v] := rfl
    rw [e, bind_ok, h] at d
    unfold eIf
    rw [d]
    rfl
  · unfold theDoor eIf
    have e : eCall M_parse_sequence_v2 (eCons (eVar 2) eNil) [.sh (.int 3), .sh (.int b), .sh v, .sh .non, s4] = (M_parse_sequence_v2 [v]).bind slotD := rfl
    rw [e, h]
    rfl
theorem want_of {b : Int} {z t : Str} {N P E Q : D} (hr : gRepr (.str z) = some (.val (.str t))) (h0 : M_law_number_of [.int b, .str z] = .ok (.sh N)) (h1 : M_law_pair_of [.int b, .str z, .str (S [64])] = .ok (.sh P)) (h2 : M_law_pair_of [.int b, .str z, .str (S [58])] = .ok (.sh E)) (h3 : (M_law_runs_of [.str z]).bind slotD = .ok Q)
    {k : Int} {R : D} (hk : gIx (.lst [N, P, E, Q]) (.int k) = some (.val R)) : M_law_want_v6 [.int k, .int b, .str z] = .ok (.sh (told R t)) := by
  unfold M_law_want_v6 told odd
  rw [body_eq, lit_at, lit_col]
  cases hn : DL.isNon R <;> simp [h0, h1, h2, h3, hk, hn, hr]
end PM
namespace PM
open PySem L2 GL DL NR
open TL (tl numL joinL)
theorem pow300 : (10 : Int) ^ 300 ≤ 2 ^ 1000 := by decide +kernel
theorem few_1900 {n : Int} (h : few n = true) : n.natAbs < 2 ^ 1900 := by
  unfold few at h
  have h := of_decide_eq_true h
  have h2 : (2 : Int) ^ 1000 ≤ ((2 ^ 1900 : Nat) : Int) := by decide +kernel
  have h3 := pow300
  have : (n.natAbs : Int) < ((2 ^ 1900 : Nat) : Int) := by
    generalize ((2 ^ 1900 : Nat) : Int) = A at *
    generalize (2 : Int) ^ 1000 = B at *
    generalize (10 : Int) ^ 300 = C at *
    split at h <;> omega
  exact Int.ofNat_lt.mp this
theorem sm_1900 {i : Int} (h : -1000 ≤ i ∧ i ≤ 1000) : i.natAbs < 2 ^ 1900 := Nat.lt_of_lt_of_le (show i.natAbs < 2 ^ 10 by omega) (Nat.pow_le_pow_right (by decide) (by decide))
theorem num_shown {b : Int} {d : D} (h : isNum b d = true) : Shown d := by
  obtain ⟨n, e, rfl, h1, h2, h3⟩ := isNum_pair h
  exact shown_ints (xs := [n, e]) (fun i hi => by
    simp only [List.mem_cons, List.not_mem_nil, or_false] at hi
    rcases hi with rfl | rfl
    · exact few_1900 h3
    · exact sm_1900 ⟨h1, h2⟩) (by simp)
theorem pair_shown {b : Int} {d : D} (h : isPair b d = true) : Shown d := by
  unfold isPair at h
  split at h
  · rename_i x y
    rw [Bool.and_eq_true] at h
    obtain ⟨h1, h2⟩ := h
    obtain ⟨n, e, rfl, h3, h4, h5⟩ := isNum_pair h1
    unfold within at h2
    split at h2
    · rename_i p
      have hp : -1000 ≤ p ∧ p ≤ 1000 := by simpa using h2
      have i1 := Sw.tuple (.cons (Sw.int (few_1900 h5)) (.cons (Sw.int (sm_1900 ⟨h3, h4⟩)) .nil))
      have i2 := Sw.tuple (.cons i1 (.cons (Sw.int (sm_1900 hp)) .nil))
      refine shown_sw' (d := .tup [.tup [.int n, .int e], .int p]) (by simp [DL.plain, plainAll]) (by simpa [py, pyAll] using i2) ?_ ?_ <;> decide
    · cases h2
  · cases h
theorem seq_shown {rs : List Run} (h : ∀ r ∈ rs, r.2.natAbs < 2 ^ 1900) (hl : rs.length ≤ 600) : Shown (.lst (rs.map runD)) := by
  refine shown_sw' (k := 2) (b := 2400) ?_ ((runs_sw h).up (Nat.le_refl _) (by omega)) (by decide) (by decide)
  unfold DL.plain
  exact runs_plainAll rs
/-- every door, every text -/
theorem doors {b : Int} (hb : 0 < b) {l : List Nat} (hc : ∀ c ∈ l, c < 128) (hl : l.length ≤ 560) {k : Int} (hk : 0 ≤ k ∧ k < 4) : ∃ A : D, M_law_got_v4 [.int k, .int b, .str (S l)] = .ok (.sh A) ∧ M_law_want_v6 [.int k, .int b, .str (S l)] = .ok (.sh A) ∧ Shown A := by
  obtain ⟨a, rp, a1, a2⟩ := repr_S hc hl
  obtain ⟨N, n1, n2, n3⟩ := num_both hb l hl
  obtain ⟨P, p1, p2, p3⟩ := pair_both hb (m := 64) (by decide) (by decide) l hl
  obtain ⟨E, e1, e2, e3⟩ := pair_both hb (m := 58) (by decide) (by decide) l hl
  obtain ⟨Q, q1, q2, q3⟩ := seq_both l hl
  have od := odd_shown a1 a2
  have sh : ∀ R : D, (R = .non ∨ Shown R) → Shown (told R (S a)) := fun R h => by
    unfold told
    split
    · exact od
    · rename_i hn
      rcases h with rfl | h
      · exact absurd rfl hn
      · exact h
  have dd := fun R => @door_at b (.str (S l)) R
  have hN : oN N = .non ∨ Shown (oN N) := by
    cases N with
    | none => exact .inl rfl
    | some x => exact .inr (num_shown (n3 x.1 x.2 rfl))
  have hP : P = .non ∨ Shown P := p3.imp id pair_shown
  have hE : E = .non ∨ Shown E := e3.imp id pair_shown
  have hQ : oS Q = .non ∨ Shown (oS Q) := by
    cases Q with
    | none => exact .inl rfl
    | some rs => exact .inr (seq_shown (q3 rs rfl).2 (q3 rs rfl).1)
  have wa := fun {k : Int} {R : D} => @want_of b (S l) (S a) (oN N) P E (oS Q) rp n2 p2 e2 q2 k R
  have : k = 0 ∨ k = 1 ∨ k = 2 ∨ k = 3 := by omega
  rcases this with rfl | rfl | rfl | rfl
  · exact ⟨told (oN N) (S a), got_of rp ((dd (oN N)).1 _ (pa_num n1)), wa (atl0 _ _), sh _ hN⟩
  · exact ⟨told P (S a), got_of rp ((dd P).2.1 _ (pa_state p1)), wa (atl1 _ _ _), sh _ hP⟩
  · exact ⟨told E (S a), got_of rp ((dd E).2.2.1 _ (pa_effect e1)), wa (by rw [gIx_lst, atI_nn (i := 2) (a := E) (by decide) rfl]; rfl), sh _ hE⟩
  · exact ⟨told (oS Q) (S a), got_of rp ((dd (oS Q)).2.2.2 _ (pa_seq q1)), wa (by rw [gIx_lst, atI_nn (i := 3) (a := oS Q) (by decide) rfl]; rfl), sh _ hQ⟩
theorem odd_smp {t : Str} (h : (PyData.str t).canLay0 = true) : Smp (odd t) := by
  have hs : (PyData.str "text").canLay0 = true := by decide +kernel
  refine ⟨?_, ?_, ?_, rfl⟩
  · unfold odd DL.plain plainAll plainAll plainAll plainAll plainAll DL.plain; rfl
  · unfold odd py pyAll pyAll pyAll pyAll pyAll py
    simp only [PyData.canLay0, PyData.canLayAll0, Bool.and_true]
    simp only [PyData.canLay0] at h hs
    rw [h, hs]; rfl
  · unfold odd py pyAll pyAll pyAll pyAll pyAll py
    simp [PyData.depth, PyData.depthAll]
/-- a value that is no text: every door raises -/
theorem got_odd49 {b k : Int} {v : D} {t : Str} (hi : gIsi .str v = some (.val (.bl false))) (hr : gRepr v = some (.val (.str t))) (hk : 0 ≤ k ∧ k < 4) : M_law_got_v4 [.int k, .int b, v] = .ok (.sh (odd t)) := by
  have a0 : (M_parse_number [.int b, v]).bind slotD = ansV .non v := by
    unfold M_parse_number ansV
    rw [body_eq]
    simp [hi]
  have a1 : ∀ m, (M_parse_pair [.int b, v, .str m]).bind slotD = ansV .non v := fun m => by
    unfold M_parse_pair ansV
    rw [body_eq]
    simp [hi]
  have a2 : (M_parse_state [.int b, v]).bind slotD = ansV .non v := by
    have := a1 (S [64])
    unfold M_parse_state
    rw [body_eq, lit_at]
    unfold ansV at *
    simp at this ⊢
    simp [this]
  have a3 : (M_parse_effect [.int b, v]).bind slotD = ansV .non v := by
    have := a1 (S [58])
    unfold M_parse_effect
    rw [body_eq, lit_col]
    unfold ansV at *
    simp at this ⊢
    simp [this]
  have a4 : (M_parse_sequence_v2 [v]).bind slotD = ansV .non v := by
    unfold M_parse_sequence_v2 ansV
    rw [body_eq]
    simp [hi]
  obtain ⟨d0, d1, d2, d3⟩ := @door_at b v .non
  have : k = 0 ∨ k = 1 ∨ k = 2 ∨ k = 3 := by omega
  rcases this with rfl | rfl | rfl | rfl
  · exact got_of hr (d0 _ a0)
  · exact got_of hr (d1 _ a2)
  · exact got_of hr (d2 _ a3)
  · exact got_of hr (d3 _ a4)
end PM
namespace PM
open PySem L2 GL DL NR
open TL (tl numL joinL)
theorem slS_to (l : List Nat) (i : Nat) (h : l.length ≤ 100000) (hi : i ≤ l.length) : gSl none (some (i : Int)) (.str (S l)) = some (.val (.str (S (l.take i)))) := by
  show giv ((S l).length ≤ 1000000) (.str (cutS (S l) none (some (i : Int)))) = _
  rw [giv_pos (by rw [S_len]; omega)]
  congr 3
  refine TL.ext_tl ?_
  show (l.drop (HT.sIx (S l).length 0 none)).take (HT.sIx (S l).length (S l).length (some (i : Int)) - HT.sIx (S l).length 0 none) = l.take i
  have e0 : HT.sIx (S l).length 0 none = 0 := rfl
  have e1 : HT.sIx (S l).length (S l).length (some (i : Int)) = i := by rw [HT.sIx_nat, S_len]; omega
  rw [e0, e1]; simp
theorem slS_from (l : List Nat) (i : Nat) (h : l.length ≤ 100000) : gSl (some (i : Int)) none (.str (S l)) = some (.val (.str (S (l.drop i)))) := by
  show giv ((S l).length ≤ 1000000) (.str (cutS (S l) (some (i : Int)) none)) = _
  rw [giv_pos (by rw [S_len]; omega)]
  congr 3
  refine TL.ext_tl ?_
  show (l.drop (HT.sIx (S l).length 0 (some (i : Int)))).take ((S l).length - HT.sIx (S l).length 0 (some (i : Int))) = l.drop i
  have e1 : HT.sIx (S l).length 0 (some (i : Int)) = min i l.length := by rw [HT.sIx_nat, S_len]
  rw [e1, S_len]
  by_cases hi : i ≤ l.length
  · rw [Nat.min_eq_left hi]
    rw [List.take_of_length_le (by rw [List.length_drop]; omega)]
  · rw [Nat.min_eq_right (by omega)]
    rw [List.drop_of_length_le (by omega), List.drop_of_length_le (by omega)]; simp
theorem sign_pick {d : Int} (h0 : 0 ≤ d) : ∃ c, c < 128 ∧ gIx (.str "0-e@: RA19x+") (.int (d % 12)) = some (.val (.str (S [c]))) := by
  have : d % 12 = 0 ∨ d % 12 = 1 ∨ d % 12 = 2 ∨ d % 12 = 3 ∨ d % 12 = 4 ∨ d % 12 = 5 ∨ d % 12 = 6 ∨ d % 12 = 7 ∨ d % 12 = 8 ∨ d % 12 = 9 ∨ d % 12 = 10 ∨ d % 12 = 11 := by omega
  have hl : ("0-e@: RA19x+" : Str).length ≤ 1000000 := by decide +kernel
  rcases this with h | h | h | h | h | h | h | h | h | h | h | h <;> rw [h]
  · exact ⟨48, by decide, gIx_str hl (atI_nn (by decide) (by decide +kernel))⟩
  · exact ⟨45, by decide, gIx_str hl (atI_nn (by decide) (by decide +kernel))⟩
  · exact ⟨101, by decide, gIx_str hl (atI_nn (by decide) (by decide +kernel))⟩
  · exact ⟨64, by decide, gIx_str hl (atI_nn (by decide) (by decide +kernel))⟩
  · exact ⟨58, by decide, gIx_str hl (atI_nn (by decide) (by decide +kernel))⟩
  · exact ⟨32, by decide, gIx_str hl (atI_nn (by decide) (by decide +kernel))⟩
  · exact ⟨82, by decide, gIx_str hl (atI_nn (by decide) (by decide +kernel))⟩
  · exact ⟨65, by decide, gIx_str hl (atI_nn (by decide) (by decide +kernel))⟩
  · exact ⟨49, by decide, gIx_str hl (atI_nn (by decide) (by decide +kernel))⟩
  · exact ⟨57, by decide, gIx_str hl (atI_nn (by decide) (by decide +kernel))⟩
  · exact ⟨120, by decide, gIx_str hl (atI_nn (by decide) (by decide +kernel))⟩
  · exact ⟨43, by decide, gIx_str hl (atI_nn (by decide) (by decide +kernel))⟩
theorem lower_S {l : List Nat} (h : ∀ c ∈ l, c < 128) (hl : l.length ≤ 100000) : ∃ a : List Nat, gLow (.str (S l)) = some (.val (.str (S a))) ∧ (∀ c ∈ a, c < 128) ∧ a.length = l.length := by
  have e : Txt.lower (S l) = ⟨(S l).cps.map PyProof.Rows.lo1⟩ := PyProof.Rows.lower_ascii h
  refine ⟨l.map PyProof.Rows.lo1, ?_, ?_, by simp⟩
  · show giv ((S l).length ≤ 1000000) (.str (Txt.lower (S l))) = _
    rw [giv_pos (by rw [S_len]; omega), e]
    congr 3
    simp
  · intro c hc
    obtain ⟨d, hd, rfl⟩ := List.mem_map.mp hc
    have := h d hd
    unfold PyProof.Rows.lo1
    split <;> omega
/-- a text of few and simple signs -/
def Fin9 (n : Nat) (l : List Nat) : Prop := (∀ c ∈ l, c < 128) ∧ l.length ≤ n
theorem Fin9.cat {n m k : Nat} {a b : List Nat} (ha : Fin9 n a) (hb : Fin9 m b) (h : n + m ≤ k) : Fin9 k (a ++ b) := ⟨fun c hc => by
  rcases List.mem_append.mp hc with hc | hc
  · exact ha.1 c hc
  · exact hb.1 c hc, by have := ha.2; have := hb.2; rw [List.length_append]; omega⟩
theorem Fin9.up {n k : Nat} {a : List Nat} (ha : Fin9 n a) (h : n ≤ k) : Fin9 k a := ⟨ha.1, Nat.le_trans ha.2 h⟩
theorem Fin9.take {n : Nat} {a : List Nat} (ha : Fin9 n a) (i : Nat) : Fin9 n (a.take i) := ⟨fun c hc => ha.1 c (List.mem_of_mem_take hc), by have := ha.2; rw [List.length_take]; omega⟩
theorem Fin9.drop {n : Nat} {a : List Nat} (ha : Fin9 n a) (i : Nat) : Fin9 n (a.drop i) := ⟨fun c hc => ha.1 c (List.mem_of_mem_drop hc), by have := ha.2; rw [List.length_drop]; omega⟩
theorem Fin9.one {c : Nat} (h : c < 128) : Fin9 1 [c] := ⟨fun d hd => by rw [List.mem_singleton.mp hd]; exact h, Nat.le_refl _⟩
theorem rev_len (m : Nat) (p : List Nat) (ps : List (List Nat)) : (joinL [m] (p :: ps).reverse).length = (joinL [m] (p :: ps)).length := by
  have all : ∀ qs : List (List Nat), qs ≠ [] → (joinL [m] qs).length + 1 = (qs.map fun x => x.length + 1).sum := fun qs => by
    intro h
    cases qs with
    | nil => exact absurd rfl h
    | cons q r =>
      rw [join_len, List.map_cons, List.sum_cons]
      omega
  have h1 := all (p :: ps) (by simp)
  have h2 := all (p :: ps).reverse (by simp)
  rw [List.map_reverse, List.sum_reverse] at h2
  omega
theorem join_mem (m : Nat) : ∀ (qs : List (List Nat)) (c : Nat), c ∈ joinL [m] qs → c = m ∨ ∃ q ∈ qs, c ∈ q
  | [], c, h => by cases h
  | [q], c, h => .inr ⟨q, by simp, h⟩
  | q :: r :: t, c, h => by
    have h : c ∈ q ++ ([m] ++ joinL [m] (r :: t)) := h
    rcases List.mem_append.mp h with h | h
    · exact .inr ⟨q, by simp, h⟩
    · rcases List.mem_append.mp h with h | h
      · exact .inl (List.mem_singleton.mp h)
      · rcases join_mem m (r :: t) c h with h | ⟨x, hx, hc⟩
        · exact .inl h
        · exact .inr ⟨x, List.mem_cons_of_mem _ hx, hc⟩
theorem part_mem (m : Nat) : ∀ (qs : List (List Nat)) (q : List Nat) (c : Nat), q ∈ qs → c ∈ q → c ∈ joinL [m] qs
  | [], _, _, h, _ => by cases h
  | [p], q, c, h, hc => by rw [List.mem_singleton.mp h] at hc; exact hc
  | p :: r :: t, q, c, h, hc => by
    show c ∈ p ++ ([m] ++ joinL [m] (r :: t))
    rcases List.mem_cons.mp h with rfl | h
    · exact List.mem_append_left _ hc
    · exact List.mem_append_right _ (List.mem_append_right _ (part_mem m (r :: t) q c h hc))
end PM
namespace PM
open PySem L2 GL DL NR
open TL (tl numL joinL)
theorem lit_e0 : ("e0" : Str) = S [101, 48] := TL.ext_tl (by rw [tl_S]; decide +kernel)
theorem last_rev (p : List Nat) (ps : List (List Nat)) : ∃ z, z ∈ p :: ps ∧ gIx (.lst ((p :: ps).map fun x => D.str (S x))) (.int (-1)) = some (.val (.str (S z))) := by
  rcases snoc_or (p :: ps) with h | ⟨t, z, h⟩
  · cases h
  · rw [h, List.map_append]
    exact ⟨z, by simp, gIx_last _ _⟩
theorem join_parts (qs : List (List Nat)) (h : (qs.map fun x => x.length + 1).sum ≤ 100000) : gJoin (.str (S [32])) (.lst (qs.map fun x => D.str (S x))) = some (.val (.str (S (joinL [32] qs)))) := by
  show (match strsD (qs.map fun x => D.str (S x)) with | some ys => giv ((ys.map (fun y : Str => y.length)).sum + ys.length * (S [32]).length ≤ 1000000) (.str (Txt.join (S [32]) ys)) | none => none) = _
  have e : (qs.map fun x => D.str (S x)) = (qs.map S).map D.str := by rw [List.map_map]; rfl
  rw [e, strsD_map]
  show giv (((qs.map S).map (fun y : Str => y.length)).sum + (qs.map S).length * (S [32]).length ≤ 1000000) (.str (Txt.join (S [32]) (qs.map S))) = _
  have key : ∀ rs : List (List Nat), ((rs.map S).map (fun y : Str => y.length)).sum + (rs.map S).length * (S [32]).length = (rs.map fun x => x.length + 1).sum := fun rs => by
    induction rs with
    | nil => rfl
    | cons r t ih =>
      have e1 : (S [32]).length = 1 := rfl
      rw [e1] at ih ⊢
      simp only [List.map_cons, List.sum_cons, List.length_cons, Nat.mul_one, List.length_map] at ih ⊢
      rw [S_len]
      omega
  rw [giv_pos (by rw [key]; omega), SX.join_S]
theorem alt_val {DL' : List D} {d0 d1 : Int} (g0 : gIx (.lst DL') (.int 0) = some (.val (.int d0))) (g1 : gIx (.lst DL') (.int 1) = some (.val (.int d1))) (p0 : 0 ≤ d0) (p1 : 0 ≤ d1) {n : Nat} {l : List Nat} (hf : Fin9 n l) (hn : n ≤ 200) :
    ∃ ts : List (List Nat), M_law_altered_v4 [.lst DL', .str (S l)] = .ok (.sh (.lst (ts.map fun x => D.str (S x)))) ∧ ts.length = 10 ∧ ∀ t ∈ ts, Fin9 560 t := by
  have hl := hf.2
  obtain ⟨a, ha, hal⟩ : ∃ a : Nat, d0 % ((l.length : Int) + 1) = (a : Int) ∧ a ≤ l.length := by
    refine ⟨(d0 % ((l.length : Int) + 1)).toNat, ?_, ?_⟩
    · have := Int.emod_nonneg d0 (show ((l.length : Int) + 1) ≠ 0 by omega)
      omega
    · have := Int.emod_lt_of_pos d0 (show (0 : Int) < (l.length : Int) + 1 by omega)
      omega
  obtain ⟨c, hc, gs⟩ := sign_pick p1
  obtain ⟨p, ps, hfr, hj⟩ := parts_of 32 l
  have sp := split_parts (m := 32) (by decide) hfr (by rw [← hj]; omega)
  rw [← hj] at sp
  obtain ⟨z, hz, gz⟩ := last_rev p ps
  obtain ⟨w, gw, w1, w2⟩ := lower_S hf.1 (by omega)
  have ln := len_S l (by omega)
  have t1 := slS_to l a (by omega) hal
  have t2 := slS_from l a (by omega)
  have t3 := slS_from l (a + 1) (by omega)
  rw [show ((a + 1 : Nat) : Int) = (a : Int) + 1 by omega] at t3
  have fz : Fin9 n z := ⟨fun x hx => hf.1 x (by rw [hj]; exact part_mem 32 _ _ _ hz hx), by have := part_len (m := 32) z hz; rw [← hj] at this; omega⟩
  have frev : Fin9 n (joinL [32] (p :: ps).reverse) := by
    refine ⟨fun x hx => ?_, by rw [rev_len, ← hj]; exact hl⟩
    rcases join_mem 32 _ x hx with rfl | ⟨q, hq, hxq⟩
    · decide
    · exact hf.1 x (by rw [hj]; exact part_mem 32 _ _ _ (List.mem_reverse.mp hq) hxq)
  have jr := join_parts (p :: ps).reverse (by
    rw [List.map_reverse, List.sum_reverse, List.map_cons, List.sum_cons]
    have := join_len 32 p ps
    rw [← hj] at this
    omega)
  have rv : ((p :: ps).map fun x => D.str (S x)).reverse = (p :: ps).reverse.map fun x => D.str (S x) := by rw [List.map_reverse]
  rw [← rv] at jr
  have c1 := (Fin9.one hc)
  have f1 := hf.take a
  have f2 := hf.drop a
  have f3 := hf.drop (a + 1)
  have A1 := add_S (a := l.take a) (b := [c]) (by have := f1.2; simp only [List.length_cons, List.length_nil]; omega)
  have A2 := add_S (a := l.take a ++ [c]) (b := l.drop a) (by have := f1.2; have := f2.2; simp only [List.length_append, List.length_cons, List.length_nil]; omega)
  have A3 := add_S (a := l.take a) (b := l.drop (a + 1)) (by have := f1.2; have := f3.2; omega)
  have A4 := add_S (a := l.take a ++ [c]) (b := l.drop (a + 1)) (by have := f1.2; have := f3.2; simp only [List.length_append, List.length_cons, List.length_nil]; omega)
  have A5 := add_S (a := l) (b := [32]) (by simp only [List.length_cons, List.length_nil]; omega)
  have A6 := add_S (a := [32]) (b := l) (by simp only [List.length_cons, List.length_nil]; omega)
  have A7 := add_S (a := l ++ [32]) (b := z) (by have := fz.2; simp only [List.length_append, List.length_cons, List.length_nil]; omega)
  have A8 := add_S (a := l) (b := [101, 48]) (by simp only [List.length_cons, List.length_nil]; omega)
  have hpos : (0 : Int) < (l.length : Int) + 1 := by omega
  refine ⟨[l, l.take a ++ [c] ++ l.drop a, l.take a ++ l.drop (a + 1), l.take a ++ [c] ++ l.drop (a + 1)] ++ [l ++ [32], [32] ++ l, joinL [32] (p :: ps).reverse, l ++ [32] ++ z, l ++ [101, 48], w], ?_, rfl, ?_⟩
  · generalize (l.length : Int) = LN at *
    generalize joinL [32] (p :: ps).reverse = JR at *
    generalize ((p :: ps).map fun x => D.str (S x)) = WL at *
    rw [List.map_append]
    simp only [List.map_cons, List.map_nil]
    unfold M_law_altered_v4
    rw [body_eq, lit_sp, lit_e0]
    generalize S (l.take a ++ [c] ++ l.drop a) = Z1 at *
    generalize S (l.take a ++ l.drop (a + 1)) = Z2 at *
    generalize S (l.take a ++ [c] ++ l.drop (a + 1)) = Z3 at *
    generalize S (l ++ [32] ++ z) = Z4 at *
    generalize S (l.take a ++ [c]) = Z5 at *
    generalize S (l ++ [32]) = Z6 at *
    generalize S ([32] ++ l) = Z7 at *
    generalize S (l ++ [101, 48]) = Z8 at *
    generalize S (l.take a) = Z9 at *
    generalize S (l.drop a) = Z10 at *
    generalize S (l.drop (a + 1)) = Z11 at *
    generalize S JR = Z12 at *
    generalize S w = Z13 at *
    generalize S z = Z14 at *
    generalize S l = Z at *
    have gm : gMod (.int d0) (.int (LN + 1)) = some (.val (.int (a : Int))) := by rw [gMod_int, giv_pos hpos, ha]
    have gm2 : gMod (.int d1) (.int 12) = some (.val (.int (d1 % 12))) := by rw [gMod_int, giv_pos (by decide)]
    simp [g0, g1, ln, gm, gm2, gs, eM1, sp, t1, t2, t3, A1, A2, A3, A4, A5, A6, A7, A8, fRev, jr, gz, gw, eM0, -gMod_int]
    have aL : gAdd (.lst [.str Z, .str Z1, .str Z2, .str Z3]) (.lst [.str Z6, .str Z7, .str Z12, .str Z4, .str Z8, .str Z13]) = some (.newL ([.str Z, .str Z1, .str Z2, .str Z3] ++ [.str Z6, .str Z7, .str Z12, .str Z4, .str Z8, .str Z13])) := rfl
    rw [aL]
    rfl
  · intro t ht
    simp only [List.mem_append, List.mem_cons, List.not_mem_nil, or_false] at ht
    have s1 : Fin9 1 [32] := Fin9.one (by decide)
    have s2 : Fin9 2 [101, 48] := ⟨fun x hx => by
      simp only [List.mem_cons, List.not_mem_nil, or_false] at hx
      omega, by decide⟩
    rcases ht with (rfl | rfl | rfl | rfl) | (rfl | rfl | rfl | rfl | rfl | rfl)
    · exact hf.up (by omega)
    · exact (f1.cat c1 (Nat.le_refl _)).cat f2 (by omega)
    · exact f1.cat f3 (by omega)
    · exact (f1.cat c1 (Nat.le_refl _)).cat f3 (by omega)
    · exact hf.cat s1 (by omega)
    · exact s1.cat hf (by omega)
    · exact frev.up (by omega)
    · exact (hf.cat s1 (Nat.le_refl _)).cat fz (by omega)
    · exact hf.cat s2 (by omega)
    · exact ⟨w1, by omega⟩
end PM
namespace PM
open PySem L2 GL DL NR
theorem base_eq {d : Int} (h0 : 0 ≤ d) : ∃ b, M_law_base [.int d] = .ok (.sh (.int b)) ∧ 2 ≤ b ∧ b ≤ 36 := by
  unfold M_law_base
  rw [body_eq]
  have h1 := Int.emod_nonneg d (show (7 : Int) ≠ 0 by decide)
  have h2 := Int.emod_lt_of_pos d (show (0 : Int) < 7 by decide)
  obtain ⟨b, hb, b0, b1⟩ : ∃ b : Int, gIx (.lst [.int 2, .int 10, .int 3, .int 7, .int 16, .int 36, .int 5]) (.int (d % 7)) = some (.val (.int b)) ∧ 2 ≤ b ∧ b ≤ 36 := by
    have : d % 7 = 0 ∨ d % 7 = 1 ∨ d % 7 = 2 ∨ d % 7 = 3 ∨ d % 7 = 4 ∨ d % 7 = 5 ∨ d % 7 = 6 := by omega
    rcases this with h | h | h | h | h | h | h <;> rw [h]
    · exact ⟨2, rfl, by decide, by decide⟩
    · exact ⟨10, rfl, by decide, by decide⟩
    · exact ⟨3, rfl, by decide, by decide⟩
    · exact ⟨7, rfl, by decide, by decide⟩
    · exact ⟨16, rfl, by decide, by decide⟩
    · exact ⟨36, rfl, by decide, by decide⟩
    · exact ⟨5, rfl, by decide, by decide⟩
  exact ⟨b, by simp [hb], b0, b1⟩
theorem integer2_eq {ds : List Int} {n : Nat} (hd : Digs 420 n ds) (hn : 6 ≤ n) : ∃ i, M_law_integer_v2 [.lst (ds.map .int)] = .ok (.sh (.int i)) ∧ i.natAbs < 2 ^ 300 := by
  unfold M_law_integer_v2
  rw [body_eq]
  obtain ⟨x0, g0, p0, q0⟩ := hd.ix (i := 0) (by omega)
  obtain ⟨x1, g1, p1, q1⟩ := hd.ix (i := 1) (by omega)
  obtain ⟨x2, g2, p2, q2⟩ := hd.ix (i := 2) (by omega)
  obtain ⟨x3, g3, p3, q3⟩ := hd.ix (i := 3) (by omega)
  obtain ⟨x4, g4, p4, q4⟩ := hd.ix (i := 4) (by omega)
  obtain ⟨x5, g5, p5, q5⟩ := hd.ix (i := 5) (by omega)
  have g0 : gIx (.lst (ds.map .int)) (.int 0) = some (.val (.int x0)) := g0
  have g1 : gIx (.lst (ds.map .int)) (.int 1) = some (.val (.int x1)) := g1
  have g2 : gIx (.lst (ds.map .int)) (.int 2) = some (.val (.int x2)) := g2
  have g3 : gIx (.lst (ds.map .int)) (.int 3) = some (.val (.int x3)) := g3
  have g4 : gIx (.lst (ds.map .int)) (.int 4) = some (.val (.int x4)) := g4
  have g5 : gIx (.lst (ds.map .int)) (.int 5) = some (.val (.int x5)) := g5
  have k1 : gMul (.int 420) (.int 420) = some (.val (.int 176400)) := mul_ok (a := 9) (b := 9) (by decide) (by decide) (by decide) (by decide) (by decide)
  have k2 : gPow (.int 10) (.int 40) = some (.val (.int (10 ^ 40))) := pow_ok (j := 40) (a := 4) (by decide) (by decide)
  have k3 : gPow (.int 10) (.int 60) = some (.val (.int (10 ^ 60))) := pow_ok (j := 60) (a := 4) (by decide) (by decide)
  have m1 : gMul (.int x1) (.int 420) = some (.val (.int (x1 * 420))) := mul_ok (a := 9) (b := 9) (lt_pow p1 (by omega)) (by decide) (by decide) (by decide) (by decide)
  have m2 : gMul (.int (x1 * 420 + x2)) (.int 420) = some (.val (.int ((x1 * 420 + x2) * 420))) := mul_ok (a := 18) (b := 9) (lt_pow (by omega) (by omega)) (by decide) (by decide) (by decide) (by decide)
  generalize hM : (x1 * 420 + x2) * 420 + x3 = M
  have M0 : 0 ≤ M ∧ M < 2 ^ 27 := by omega
  have h1 := Int.emod_nonneg x0 (show (6 : Int) ≠ 0 by decide)
  have h2 := Int.emod_lt_of_pos x0 (show (0 : Int) < 6 by decide)
  have b40 : (0 : Int) ≤ 10 ^ 40 ∧ (10 : Int) ^ 40 < 2 ^ 210 := by decide +kernel
  have b60 : (0 : Int) ≤ 10 ^ 60 ∧ (10 : Int) ^ 60 < 2 ^ 210 := by decide +kernel
  generalize (10 : Int) ^ 40 = T4 at k2 b40
  generalize (10 : Int) ^ 60 = T6 at k3 b60
  obtain ⟨S, hS, S0, S1⟩ : ∃ S : Int, gIx (.lst [.int 1, .int 12, .int 420, .int 176400, .int T4, .int T6]) (.int (x0 % 6)) = some (.val (.int S)) ∧ 0 ≤ S ∧ S < 2 ^ 210 := by
    have big : (176400 : Int) < 2 ^ 210 := by decide +kernel
    have : x0 % 6 = 0 ∨ x0 % 6 = 1 ∨ x0 % 6 = 2 ∨ x0 % 6 = 3 ∨ x0 % 6 = 4 ∨ x0 % 6 = 5 := by omega
    generalize (2 : Int) ^ 210 = BB at big b40 b60 ⊢
    rcases this with h | h | h | h | h | h <;> rw [h]
    · exact ⟨1, rfl, by omega, by omega⟩
    · exact ⟨12, rfl, by omega, by omega⟩
    · exact ⟨420, rfl, by omega, by omega⟩
    · exact ⟨176400, rfl, by omega, by omega⟩
    · exact ⟨T4, rfl, b40.1, b40.2⟩
    · exact ⟨T6, rfl, b60.1, b60.2⟩
  have d1 : gDiv (.int S) (.int 7) = some (.val (.int (S / 7))) := div_ok (a := 3) (by decide) (by decide) (by decide) (by decide)
  have R0 : 0 ≤ S / 7 + 1 ∧ S / 7 + 1 < 2 ^ 211 := by
    have e : (2 : Int) ^ 211 = 2 ^ 210 * 2 := by rw [← Int.pow_succ]
    have := Int.ediv_nonneg S0 (show (0 : Int) ≤ 7 by decide)
    have h7 : S / 7 ≤ S := Int.ediv_le_self _ S0
    rw [e]
    have : (1 : Int) ≤ 2 ^ 210 := by decide +kernel
    generalize (2 : Int) ^ 210 = BB at *
    omega
  generalize hR : S / 7 + 1 = R at R0
  have m3 : gMul (.int M) (.int R) = some (.val (.int (M * R))) := mul_ok (a := 27) (b := 211) (lt_pow M0.1 M0.2) (lt_pow R0.1 R0.2) (by decide) (by decide) (by decide)
  have d2 : gDiv (.int (M * R)) (.int (1 + x4)) = some (.val (.int (M * R / (1 + x4)))) := div_ok (a := 9) (by omega) (lt_pow (by omega) (by omega)) (by decide) (by decide)
  have V0 : 0 ≤ M * R / (1 + x4) + M % 9 ∧ (M * R / (1 + x4) + M % 9).natAbs < 2 ^ 300 := by
    have h3 : 0 ≤ M * R := Int.mul_nonneg M0.1 R0.1
    have h4 := Int.ediv_nonneg h3 (show (0 : Int) ≤ 1 + x4 by omega)
    have h5 : M * R / (1 + x4) ≤ M * R := Int.ediv_le_self _ h3
    have h6 := Int.emod_nonneg M (show (9 : Int) ≠ 0 by decide)
    have h7 := Int.emod_lt_of_pos M (show (0 : Int) < 9 by decide)
    have h8 : M * R ≤ 2 ^ 27 * 2 ^ 211 := Int.mul_le_mul (by omega) (by omega) R0.1 (by decide)
    have h9 : (2 : Int) ^ 27 * 2 ^ 211 + 9 < 2 ^ 300 := by decide +kernel
    generalize M * R = MR at *
    generalize MR / (1 + x4) = Q at *
    refine ⟨by omega, lt_pow (by omega) ?_⟩
    generalize (2 : Int) ^ 27 * 2 ^ 211 = B1 at *
    generalize (2 : Int) ^ 300 = B2 at *
    omega
  generalize hV : M * R / (1 + x4) + M % 9 = V at V0
  by_cases c1 : 0 < x0 % 13
  · by_cases c2 : x5 % 2 = 1
    · refine ⟨0 - V, ?_, by rw [Int.zero_sub, Int.natAbs_neg]; exact V0.2⟩
      simp [g0, g1, g2, g3, g4, g5, k1, k2, k3, m1, m2, hM, hS, d1, hR, m3, d2, hV, c1, c2, show 0 < 1 + x4 by omega]
    · refine ⟨V, ?_, V0.2⟩
      simp [g0, g1, g2, g3, g4, g5, k1, k2, k3, m1, m2, hM, hS, d1, hR, m3, d2, hV, c1, c2, show 0 < 1 + x4 by omega]
  · refine ⟨0, ?_, by decide +kernel⟩
    simp [g0, g1, g2, g3, g4, g5, k1, k2, k3, m1, m2, hM, hS, d1, hR, m3, d2, hV, c1, show 0 < 1 + x4 by omega]
section
variable {b : Int} (hb : 2 ≤ b) (hb2 : b ≤ 36)
include hb hb2
theorem number2_val {ds : List Int} {n : Nat} (hd : Digs 420 n ds) (hn : 7 ≤ n) : ∃ v, M_law_number_v2 [.int b, .lst (ds.map .int)] = .ok (.sh (numD b v)) ∧ Sz b v 350 (-4) ∧ (nm b v).natAbs < 2 ^ 300 := by
  obtain ⟨x6, g6, p6, q6⟩ := hd.ix (i := 6) (by omega)
  have g6 : gIx (.lst (ds.map .int)) (.int 6) = some (.val (.int x6)) := g6
  obtain ⟨i, e1, e2⟩ := integer2_eq hd (by omega)
  have h9 := Int.emod_nonneg x6 (show (9 : Int) ≠ 0 by decide)
  have h9' := Int.emod_lt_of_pos x6 (show (0 : Int) < 9 by decide)
  have r := law_form_val hb hb2 (n := i) (x6 % 9 - 4) e2 (by decide)
  refine ⟨(i : Rat) * W b (x6 % 9 - 4), ?_, (Sz.of e2).to hb hb2 (by omega) (by omega), Nat.lt_of_le_of_lt (nm_le hb) e2⟩
  generalize hE : x6 % 9 - 4 = E at *
  unfold M_law_number_v2
  rw [body_eq]
  simp [g6, e1, hE, r]
end
end PM
namespace PM
open PySem L2 GL DL NR
open TL (tl numL joinL)
theorem numL_128 (k : Nat) : ∀ c ∈ numL k, c < 128 := fun c h => by have := TL.numL_digits k c h; omega
theorem intL_fine {i : Int} {k : Nat} (hk : 0 < k) (h : i.natAbs < 10 ^ k) : Fin9 (k + 1) (intL i) := by
  rw [intL_abs]
  have a : Fin9 1 (if i < 0 then [45] else []) := by
    split
    · exact Fin9.one (by decide)
    · exact ⟨(fun c h => by cases h), by decide⟩
  have b : Fin9 k (numL i.natAbs) := ⟨numL_128 _, TL.numL_len hk h⟩
  exact a.cat b (by omega)
theorem small_fine {i : Int} (h : i.natAbs < 10 ^ 6) : Fin9 7 (intL i) := intL_fine (by decide) h
/-- the law's text of a number -/
theorem text49 {n e : Int} (hn : n.natAbs < 2 ^ 300) (he : -1000 ≤ e ∧ e ≤ 1000) : Fin9 105 (numT n e) := by
  have f1 : Fin9 92 (intL n) := intL_fine (k := 91) (by decide) (Nat.lt_trans hn (by decide +kernel))
  have f2 : Fin9 7 (intL e) := small_fine (Nat.lt_of_le_of_lt (show e.natAbs ≤ 1000 by omega) (by decide))
  unfold numT
  split
  · exact f1.up (by decide)
  · exact f1.cat ((Fin9.one (c := 101) (by decide)).cat f2 (Nat.le_refl _)) (by decide)
theorem set6 {n e : Int} (hn : n.natAbs < 2 ^ 1900) (he : e.natAbs < 2 ^ 1900) (s0 s1 s2 s3 s4 : DL.Slot) (r : En) :
    (eOp gAdd (eUn gStr (eOp gIx (eVar 5) (eC (.int 0)))) (eOp gMulS (eOp gAdd (eC (.str "e")) (eUn gStr (eOp gIx (eVar 5) (eC (.int 1))))) (eUn gInt (eOp gNe (eOp gIx (eVar 5) (eC (.int 1))) (eC (.int 0)))))) (s0 :: s1 :: s2 :: s3 :: s4 :: .sh (.tup [.int n, .int e]) :: r) = .ok (.str (S (numT n e))) := by
  have d1 := str_int' hn
  have d2 := str_int' he
  have l1 := dec_len hn
  have l2 := dec_len he
  have a1 : gAdd (.str (S [101])) (.str (S (intL e))) = some (.val (.str (S (101 :: intL e)))) := add_S (a := [101]) (b := intL e) (by simp; omega)
  have m1 : gMulS (.str (S (101 :: intL e))) (.int 1) = some (.val (.str (S (101 :: intL e)))) := by
    have : gMulS (.str (S (101 :: intL e))) (.int 1) = some (.val (.str (mulS (S (101 :: intL e)) 1))) := giv_pos (by decide)
    rw [this, mulS_one]
  have m0 : gMulS (.str (S (101 :: intL e))) (.int 0) = some (.val (.str (S []))) := by
    have : gMulS (.str (S (101 :: intL e))) (.int 0) = some (.val (.str (mulS (S (101 :: intL e)) 0))) := giv_pos (by decide)
    rw [this, mulS_zero]; rfl
  have f1 := add_S (a := intL n) (b := 101 :: intL e) (by simp; omega)
  have f0 := add_S (a := intL n) (b := []) (by simp; omega)
  rw [List.append_nil] at f0
  have i1 : gInt (.bl true) = some (.val (.int 1)) := rfl
  have i0 : gInt (.bl false) = some (.val (.int 0)) := rfl
  have x0 : gIx (.tup [.int n, .int e]) (.int 0) = some (.val (.int n)) := rfl
  have x1 : gIx (.tup [.int n, .int e]) (.int 1) = some (.val (.int e)) := rfl
  rw [lit_e]
  by_cases h0 : e = 0
  · have nb : gNe (.int e) (.int 0) = some (.val (.bl false)) := by rw [gNe_int, h0]; rfl
    have nt : numT n e = intL n := if_pos h0
    rw [nt]
    simp only [h0] at *
    simp [x0, x1, d1, d2, a1, m0, f0, i0]
  · have nt : numT n e = intL n ++ 101 :: intL e := if_neg h0
    have nb : (!(e == 0)) = true := by simp [h0]
    rw [nt]
    simp [x0, x1, d1, d2, a1, m1, f1, i1, nb]
/-- the words of the runs -/
theorem word49 {r : Run} (h : r.2.natAbs < 2 ^ 1900) (s0 s1 s2 s3 s4 s5 s6 s7 s8 s9 s10 s11 s12 s13 s14 : DL.Slot) : C_law_K49_1 [s0, s1, s2, s3, s4, s5, s6, s7, s8, s9, s10, s11, s12, s13, s14, .sh (.str r.1.s), .sh (.int r.2)] = .ok (.str (S (runT r))) := by
  have d1 := str_int' h
  have l1 := dec_len h
  have m1 : gMulS (.str (S (intL r.2))) (.int 1) = some (.val (.str (S (intL r.2)))) := by
    have : gMulS (.str (S (intL r.2))) (.int 1) = some (.val (.str (mulS (S (intL r.2)) 1))) := giv_pos (by decide)
    rw [this, mulS_one]
  have m0 : gMulS (.str (S (intL r.2))) (.int 0) = some (.val (.str (S []))) := by
    have : gMulS (.str (S (intL r.2))) (.int 0) = some (.val (.str (mulS (S (intL r.2)) 0))) := giv_pos (by decide)
    rw [this, mulS_zero]; rfl
  have ad : gAdd (.str (S [oc r.1])) (.str (S (intL r.2))) = some (.val (.str (S (oc r.1 :: intL r.2)))) := add_S (a := [oc r.1]) (b := intL r.2) (by simp; omega)
  have a0 : gAdd (.str (S [oc r.1])) (.str (S [])) = some (.val (.str (S [oc r.1]))) := add_S (a := [oc r.1]) (b := []) (by simp)
  have i1 : gInt (.bl true) = some (.val (.int 1)) := rfl
  have i0 : gInt (.bl false) = some (.val (.int 0)) := rfl
  unfold C_law_K49_1 runT
  rw [op_S]
  by_cases h1 : r.2 = 1
  · rw [if_pos h1]
    rw [h1] at d1 m0 m1
    simp [h1, d1, m0, a0, i0]
  · have nb : (!(r.2 == 1)) = true := by simp [h1]
    rw [if_neg h1]
    simp [h1, d1, m1, ad, i1, nb]
theorem words_fine {rs : List Run} (h : ∀ r ∈ rs, 1 ≤ r.2 ∧ r.2 ≤ 200000) (hl : rs.length ≤ 7) : Fin9 70 (joinL [32] (rs.map runT)) := by
  have f : ∀ r ∈ rs, Fin9 8 (runT r) := fun r hr => by
    have o : Fin9 1 [oc r.1] := Fin9.one (by cases r.1 <;> decide)
    unfold runT
    split
    · exact o.up (by decide)
    · exact o.cat (small_fine (Nat.lt_of_le_of_lt (show r.2.natAbs ≤ 200000 by have := h r hr; omega) (by decide))) (by decide)
  refine ⟨fun c hc => ?_, ?_⟩
  · rcases join_mem 32 _ c hc with rfl | ⟨q, hq, hcq⟩
    · decide
    · obtain ⟨r, hr, rfl⟩ := List.mem_map.mp hq
      exact (f r hr).1 c hcq
  · have key : ∀ qs : List Run, (∀ r ∈ qs, Fin9 8 (runT r)) → (joinL [32] (qs.map runT)).length ≤ 9 * qs.length := fun qs hq => by
      cases qs with
      | nil => exact Nat.zero_le _
      | cons q t =>
        rw [List.map_cons, join_len]
        have h1 := (hq q List.mem_cons_self).2
        have h2 : ((t.map runT).map fun x => x.length + 1).sum ≤ 9 * t.length := by
          have hq' : ∀ r ∈ t, Fin9 8 (runT r) := fun r hr => hq r (List.mem_cons_of_mem _ hr)
          clear h1 hq
          induction t with
          | nil => exact Nat.le_refl _
          | cons x u ih =>
            have := (hq' x List.mem_cons_self).2
            have := ih fun r hr => hq' r (List.mem_cons_of_mem _ hr)
            simp only [List.map_cons, List.sum_cons, List.length_cons]
            omega
        simp only [List.length_cons]
        omega
    have := key rs f
    omega
theorem set9 {rs : List Run} (h : ∀ r ∈ rs, 1 ≤ r.2 ∧ r.2 ≤ 200000) (hl : rs.length ≤ 7) (s0 s1 s2 s3 s4 s5 s6 s7 s9 s10 s11 s12 s13 s14 s15 s16 : DL.Slot) :
    (eM1 gJoin (eC (.str " ")) (eAll (mComp [15, 16] (iLst (eVar 8)) (bOfTup [(bName 15), (bName 16)]) bYes C_law_K49_1))) [s0, s1, s2, s3, s4, s5, s6, s7, .sh (.lst (rs.map runD)), s9, s10, s11, s12, s13, s14, s15, s16] = .ok (.str (S (joinL [32] (rs.map runT)))) := by
  have jn := join_words (rs := rs) (fun r hr => Nat.lt_of_le_of_lt (show r.2.natAbs ≤ 200000 by have := h r hr; omega) (by decide +kernel)) (by omega)
  have ej : Txt.join (S [32]) (wordsT rs) = S (joinL [32] (rs.map runT)) := by
    have e : wordsT rs = (rs.map runT).map S := by unfold wordsT; rw [List.map_map]; rfl
    rw [e]
    exact SX.join_S [32] (rs.map runT)
  rw [ej] at jn
  have cm : ∀ qs : List Run, (∀ r ∈ qs, 1 ≤ r.2 ∧ r.2 ≤ 200000) → compM (bOfTup [(bName 15), (bName 16)]) bYes C_law_K49_1 [s0, s1, s2, s3, s4, s5, s6, s7, .sh (.lst (rs.map runD)), s9, s10, s11, s12, s13, s14, .un, .un] (qs.map runD) = .ok ((wordsT qs).map D.str) := fun qs hq => by
    induction qs with
    | nil => rfl
    | cons q t ih =>
      have w := word49 (r := q) (Nat.lt_of_le_of_lt (show q.2.natAbs ≤ 200000 by have := hq q List.mem_cons_self; omega) (by decide +kernel)) s0 s1 s2 s3 s4 s5 s6 s7 (.sh (.lst (rs.map runD))) s9 s10 s11 s12 s13 s14
      have ih := ih fun r hr => hq r (List.mem_cons_of_mem _ hr)
      show compM _ _ _ _ (runD q :: t.map runD) = .ok (D.str (S (runT q)) :: (wordsT t).map D.str)
      rw [compM]
      have bd : bOfTup [(bName 15), (bName 16)] (runD q) [s0, s1, s2, s3, s4, s5, s6, s7, .sh (.lst (rs.map runD)), s9, s10, s11, s12, s13, s14, .un, .un] = some [s0, s1, s2, s3, s4, s5, s6, s7, .sh (.lst (rs.map runD)), s9, s10, s11, s12, s13, s14, .sh (.str q.1.s), .sh (.int q.2)] := rfl
      rw [bd]
      generalize (wordsT t).map D.str = WT at *
      generalize rs.map runD = RD at *
      simp [w, ih]
  have cm := cm rs h
  have hlen : (rs.map runD).length < 1000000 := by rw [List.length_map]; omega
  rw [lit_sp]
  generalize (wordsT rs).map D.str = WT at *
  generalize rs.map runD = RD at *
  simp [comp_eq, wipeE, cm, hlen, eM1, jn]
end PM
namespace PM
open PySem L2 GL DL NR
open TL (tl numL joinL)
/-- a text that every door can be shown -/
def Ok9 (x : Str) : Prop := Fin9 560 (TL.tl x)
theorem ok9_S {l : List Nat} (h : Fin9 560 l) : Ok9 (S l) := h
instance (x : Str) : Decidable (Ok9 x) := by unfold Ok9 Fin9; exact inferInstance
section
variable {s0 s1 s2 s4 s5 s6 s7 s8 s9 : DL.Slot}
/-- one text altered -/
theorem alt_turn {dl dl' : List D} {u v2 d0 d1 : Int} (mu : gMul (.int 2) (.int u) = some (.val (.int v2))) (sl : gSl (some (30 + v2)) none (.lst dl) = some (.newL dl')) (g0 : gIx (.lst dl') (.int 0) = some (.val (.int d0))) (g1 : gIx (.lst dl') (.int 1) = some (.val (.int d1))) (p0 : 0 ≤ d0) (p1 : 0 ≤ d1)
    (xs : List Str) (hx : ∀ x ∈ xs, Ok9 x) (hxl : xs.length ≤ 10000) {l : List Nat} (hf : Fin9 200 l) (x13 x14 x15 x16 : DL.Slot) : ∃ ys : List Str, (∀ x ∈ ys, Ok9 x) ∧ ys.length = xs.length + 10 ∧
    B_law_K49_1 [s0, s1, s2, .sh (.lst dl), s4, s5, s6, s7, s8, s9, .sh (.lst (xs.map .str)), .sh (.int u), .sh (.str (S l)), x13, x14, x15, x16] = .nx [s0, s1, s2, .sh (.lst dl), s4, s5, s6, s7, s8, s9, .sh (.lst (ys.map .str)), .sh (.int u), .sh (.str (S l)), x13, x14, x15, x16] := by
  obtain ⟨ts, e, tl_, ht⟩ := alt_val g0 g1 p0 p1 hf (by decide)
  refine ⟨xs ++ ts.map S, fun x h => ?_, by rw [List.length_append, List.length_map, tl_], ?_⟩
  · rcases List.mem_append.mp h with h | h
    · exact hx x h
    · obtain ⟨t, h2, rfl⟩ := List.mem_map.mp h
      exact ht t h2
  · have em : (ts.map fun x => D.str (S x)) = (ts.map S).map D.str := by rw [List.map_map]; rfl
    rw [em] at e
    have ad := cat_lst (xs := xs.map .str) (ys := (ts.map S).map .str) (by rw [List.length_map, List.length_map, List.length_map]; omega)
    rw [List.map_append]
    generalize (ts.map S).map D.str = T at *
    generalize xs.map D.str = X at *
    generalize S l = Z at *
    unfold B_law_K49_1
    simp [mu, sl, e, ad]
/-- four texts altered -/
theorem four_turn {dl dl' : List D} {u v2 d0 d1 : Int} (mu : gMul (.int 2) (.int u) = some (.val (.int v2))) (sl : gSl (some (30 + v2)) none (.lst dl) = some (.newL dl')) (g0 : gIx (.lst dl') (.int 0) = some (.val (.int d0))) (g1 : gIx (.lst dl') (.int 1) = some (.val (.int d1))) (p0 : 0 ≤ d0) (p1 : 0 ≤ d1)
    (xs : List Str) (hx : ∀ x ∈ xs, Ok9 x) (hxl : xs.length ≤ 1000) {tx pl wd : List Nat} (h1 : Fin9 105 tx) (h2 : Fin9 7 pl) (h3 : Fin9 70 wd) (x12 x13 x14 x15 x16 : DL.Slot) : ∃ ys : List Str, (∀ x ∈ ys, Ok9 x) ∧ ys.length = xs.length + 40 ∧
    B_law_K49_2 [s0, s1, s2, .sh (.lst dl), s4, s5, .sh (.str (S tx)), .sh (.str (S pl)), s8, .sh (.str (S wd)), .sh (.lst (xs.map .str)), .sh (.int u), x12, x13, x14, x15, x16] = .nx [s0, s1, s2, .sh (.lst dl), s4, s5, .sh (.str (S tx)), .sh (.str (S pl)), s8, .sh (.str (S wd)), .sh (.lst (ys.map .str)), .sh (.int u), .sh (.str (S wd)), x13, x14, x15, x16] := by
  have m64 : Fin9 1 [64] := Fin9.one (by decide)
  have m58 : Fin9 1 [58] := Fin9.one (by decide)
  have c1 : Fin9 200 (tx ++ [64] ++ pl) := (h1.cat m64 (Nat.le_refl _)).cat h2 (by decide)
  have c2 : Fin9 200 (tx ++ [58] ++ pl) := (h1.cat m58 (Nat.le_refl _)).cat h2 (by decide)
  obtain ⟨y1, k1, n1, e1⟩ := alt_turn (s0 := s0) (s1 := s1) (s2 := s2) (s4 := s4) (s5 := s5) (s6 := .sh (.str (S tx))) (s7 := .sh (.str (S pl))) (s8 := s8) (s9 := .sh (.str (S wd))) mu sl g0 g1 p0 p1 xs hx (by omega) (h1.up (k := 200) (by decide)) x13 x14 x15 x16
  obtain ⟨y2, k2, n2, e2⟩ := alt_turn (s0 := s0) (s1 := s1) (s2 := s2) (s4 := s4) (s5 := s5) (s6 := .sh (.str (S tx))) (s7 := .sh (.str (S pl))) (s8 := s8) (s9 := .sh (.str (S wd))) mu sl g0 g1 p0 p1 y1 k1 (by omega) c1 x13 x14 x15 x16
  obtain ⟨y3, k3, n3, e3⟩ := alt_turn (s0 := s0) (s1 := s1) (s2 := s2) (s4 := s4) (s5 := s5) (s6 := .sh (.str (S tx))) (s7 := .sh (.str (S pl))) (s8 := s8) (s9 := .sh (.str (S wd))) mu sl g0 g1 p0 p1 y2 k2 (by omega) c2 x13 x14 x15 x16
  obtain ⟨y4, k4, n4, e4⟩ := alt_turn (s0 := s0) (s1 := s1) (s2 := s2) (s4 := s4) (s5 := s5) (s6 := .sh (.str (S tx))) (s7 := .sh (.str (S pl))) (s8 := s8) (s9 := .sh (.str (S wd))) mu sl g0 g1 p0 p1 y3 k3 (by omega) (h3.up (k := 200) (by decide)) x13 x14 x15 x16
  refine ⟨y4, k4, by omega, ?_⟩
  have l1 := h1.2
  have l2 := h2.2
  have a1 := add_S (a := tx) (b := [64]) (by simp only [List.length_cons, List.length_nil]; omega)
  have a2 := add_S (a := tx ++ [64]) (b := pl) (by simp only [List.length_append, List.length_cons, List.length_nil]; omega)
  have a3 := add_S (a := tx) (b := [58]) (by simp only [List.length_cons, List.length_nil]; omega)
  have a4 := add_S (a := tx ++ [58]) (b := pl) (by simp only [List.length_append, List.length_cons, List.length_nil]; omega)
  unfold B_law_K49_2
  rw [lit_at, lit_col]
  generalize S (tx ++ [64] ++ pl) = Z1 at *
  generalize S (tx ++ [58] ++ pl) = Z2 at *
  generalize S (tx ++ [64]) = Z3 at *
  generalize S (tx ++ [58]) = Z4 at *
  generalize S tx = TX at *
  generalize S pl = PL at *
  generalize S wd = WD at *
  generalize xs.map D.str = X0 at *
  generalize y1.map D.str = X1 at *
  generalize y2.map D.str = X2 at *
  generalize y3.map D.str = X3 at *
  generalize y4.map D.str = X4 at *
  simp [a1, a2, a3, a4, DL.forM, e1, e2, e3, e4]
end
section
variable {b : Int} (hb : 0 < b)
include hb
/-- four doors, one text -/
theorem door_turn {z : Str} (hz : Ok9 z) (s0 s1 s2 s3 s5 s6 s7 s8 s9 s10 s11 x13 x14 x15 x16 : DL.Slot) :
    B_law_K49_4 [s0, s1, s2, s3, .sh (.int b), s5, s6, s7, s8, s9, s10, s11, .sh (.str z), x13, x14, x15, x16] = .nx [s0, s1, s2, s3, .sh (.int b), s5, s6, s7, s8, s9, s10, s11, .sh (.str z), .sh (.int 3), x14, x15, x16] := by
  have one : ∀ k : Int, 0 ≤ k ∧ k < 4 → B_law_K49_3 [s0, s1, s2, s3, .sh (.int b), s5, s6, s7, s8, s9, s10, s11, .sh (.str z), .sh (.int k), x14, x15, x16] = .nx [s0, s1, s2, s3, .sh (.int b), s5, s6, s7, s8, s9, s10, s11, .sh (.str z), .sh (.int k), x14, x15, x16] := fun k hk => by
    obtain ⟨A, h1, h2, h3⟩ := doors hb (l := TL.tl z) hz.1 hz.2 hk
    rw [show S (TL.tl z) = z from SX.S_tl z] at h1 h2
    have rp := gRepr_of h3
    generalize (pyR A).shown = TXT at *
    unfold B_law_K49_3
    simp [h1, h2, rp]
  have o0 := one 0 (by decide)
  have o1 := one 1 (by decide)
  have o2 := one 2 (by decide)
  have o3 := one 3 (by decide)
  have rg : rng1 [.int 4] = .ok [.int 0, .int 1, .int 2, .int 3] := rfl
  unfold B_law_K49_4
  simp [iR1, rg, DL.forM, o0, o1, o2, o3]
theorem doors_loop (s0 s1 s2 s3 s5 s6 s7 s8 s9 s10 s11 x14 x15 x16 : DL.Slot) : ∀ (xs : List Str) (x12 x13 : DL.Slot), (∀ x ∈ xs, Ok9 x) → ∃ y12 y13,
    DL.forM (bName 12) B_law_K49_4 (xs.map .str) [s0, s1, s2, s3, .sh (.int b), s5, s6, s7, s8, s9, s10, s11, x12, x13, x14, x15, x16] = .nx [s0, s1, s2, s3, .sh (.int b), s5, s6, s7, s8, s9, s10, s11, y12, y13, x14, x15, x16]
  | [], x12, x13, _ => ⟨x12, x13, rfl⟩
  | x :: r, x12, x13, h => by
    obtain ⟨y12, y13, e⟩ := doors_loop s0 s1 s2 s3 s5 s6 s7 s8 s9 s10 s11 x14 x15 x16 r (.sh (.str x)) (.sh (.int 3)) fun y hy => h y (List.mem_cons_of_mem _ hy)
    refine ⟨y12, y13, ?_⟩
    rw [List.map_cons, forM_cons _ _ _ _ _ [s0, s1, s2, s3, .sh (.int b), s5, s6, s7, s8, s9, s10, s11, .sh (.str x), x13, x14, x15, x16] rfl, door_turn hb (h x List.mem_cons_self)]
    exact e
end
/-- a value that is no text, at every door -/
theorem val_turn {v : D} {t : Str} {b : Int} (hi : gIsi .str v = some (.val (.bl false))) (hr : gRepr v = some (.val (.str t))) (hc : (PyData.str t).canLay0 = true) (s0 s1 s2 s3 s5 s6 s7 s8 s9 s10 s11 x12 x13 x15 x16 : DL.Slot) :
    B_law_K49_5 [s0, s1, s2, s3, .sh (.int b), s5, s6, s7, s8, s9, s10, s11, x12, x13, .sh v, x15, x16] = .nx [s0, s1, s2, s3, .sh (.int b), s5, s6, s7, s8, s9, s10, s11, x12, x13, .sh v, x15, x16] := by
  have g := fun k hk => got_odd49 (b := b) (k := k) hi hr hk
  have g0 := g 0 (by decide)
  have g1 := g 1 (by decide)
  have g2 := g 2 (by decide)
  have g3 := g 3 (by decide)
  have rg : rng1 [.int 4] = .ok [.int 0, .int 1, .int 2, .int 3] := rfl
  have mr : gMul (.lst [odd t]) (.int 4) = some (.newL (List.replicate 4 (odd t))) := mul_rep (odd t) 4 (by decide)
  have nn : gNe (.lst [odd t, odd t, odd t, odd t]) (.lst (List.replicate 4 (odd t))) = some (.val (.bl false)) := gNe_same (eqOk_lst fun x hx => by
    simp only [List.mem_cons, List.not_mem_nil, or_false] at hx
    rcases hx with rfl | rfl | rfl | rfl <;> exact odd_smp hc)
  have cm : ∀ k : Int, ∀ A, M_law_got_v4 [.int k, .int b, v] = .ok (.sh A) → C_law_K49_2 [s0, s1, s2, s3, .sh (.int b), s5, s6, s7, s8, s9, s10, s11, x12, .sh (.int k), .sh v, x15, x16] = .ok A := fun k A h => by
    unfold C_law_K49_2
    simp [h]
  have c0 := cm _ _ g0
  have c1 := cm _ _ g1
  have c2 := cm _ _ g2
  have c3 := cm _ _ g3
  have od : D.lst [.str "text", .str t, .bl true, .bl false] = odd t := rfl
  generalize List.replicate 4 (odd t) = R4 at *
  unfold B_law_K49_5
  simp [comp_eq, wipeE, iR1, rg, compM, c0, c1, c2, c3, hr, od, mr, nn]
end PM
namespace K49
open PySem L2 GL DL PM
def top (i : Nat) : Stmt := PySem.Challenge.pw_abacushead_k49_texts_that_are_invalid.main.body.getD i (.Pass ⟨0, 0, 0, 0⟩)
abbrev s_is_whole : Stmt := top 6
theorem sc_is_whole : FnScope ["value"] ["value"] (defScope s_is_whole) := ⟨rfl, rfl, rfl, by decide +kernel, rfl, by decide +kernel, by decide +kernel⟩
abbrev s_is_within : Stmt := top 7
theorem sc_is_within : FnScope ["value", "low", "high"] ["value", "low", "high"] (defScope s_is_within) := ⟨rfl, rfl, rfl, by decide +kernel, rfl, by decide +kernel, by decide +kernel⟩
abbrev s_is_place : Stmt := top 8
theorem sc_is_place : FnScope ["value"] ["value"] (defScope s_is_place) := ⟨rfl, rfl, rfl, by decide +kernel, rfl, by decide +kernel, by decide +kernel⟩
abbrev s_power_of : Stmt := top 9
theorem sc_power_of : FnScope ["base", "count", "power", "bit"] ["base", "count"] (defScope s_power_of) := ⟨rfl, rfl, rfl, by decide +kernel, rfl, by decide +kernel, by decide +kernel⟩
abbrev s_is_number : Stmt := top 12
theorem sc_is_number : FnScope ["base", "value", "numerator", "exponent"] ["base", "value"] (defScope s_is_number) := ⟨rfl, rfl, rfl, by decide +kernel, rfl, by decide +kernel, by decide +kernel⟩
abbrev s_has_few_digits : Stmt := top 13
theorem sc_has_few_digits : FnScope ["numerator"] ["numerator"] (defScope s_has_few_digits) := ⟨rfl, rfl, rfl, by decide +kernel, rfl, by decide +kernel, by decide +kernel⟩
abbrev s_is_sequence : Stmt := top 16
theorem sc_is_sequence : FnScope ["value"] ["value"] (defScope s_is_sequence) := ⟨rfl, rfl, rfl, by decide +kernel, rfl, by decide +kernel, by decide +kernel⟩
abbrev s_wrong_run : Stmt := top 17
theorem sc_wrong_run : FnScope ["values", "before", "index", "value"] ["values"] (defScope s_wrong_run) := ⟨rfl, rfl, rfl, by decide +kernel, rfl, by decide +kernel, by decide +kernel⟩
abbrev s_is_run : Stmt := top 18
theorem sc_is_run : FnScope ["value", "operation", "count"] ["value"] (defScope s_is_run) := ⟨rfl, rfl, rfl, by decide +kernel, rfl, by decide +kernel, by decide +kernel⟩
abbrev s_is_pair : Stmt := top 20
theorem sc_is_pair : FnScope ["base", "value", "number", "place"] ["base", "value"] (defScope s_is_pair) := ⟨rfl, rfl, rfl, by decide +kernel, rfl, by decide +kernel, by decide +kernel⟩
abbrev s_parse_number : Stmt := top 24
theorem sc_parse_number : FnScope ["base", "text", "number"] ["base", "text"] (defScope s_parse_number) := ⟨rfl, rfl, rfl, by decide +kernel, rfl, by decide +kernel, by decide +kernel⟩
abbrev s_parse_state : Stmt := top 25
theorem sc_parse_state : FnScope ["base", "text"] ["base", "text"] (defScope s_parse_state) := ⟨rfl, rfl, rfl, by decide +kernel, rfl, by decide +kernel, by decide +kernel⟩
abbrev s_parse_effect : Stmt := top 26
theorem sc_parse_effect : FnScope ["base", "text"] ["base", "text"] (defScope s_parse_effect) := ⟨rfl, rfl, rfl, by decide +kernel, rfl, by decide +kernel, by decide +kernel⟩
abbrev s_parse_sequence : Stmt := top 27
theorem sc_parse_sequence : FnScope ["text", "sequence"] ["text"] (defScope s_parse_sequence) := ⟨rfl, rfl, rfl, by decide +kernel, rfl, by decide +kernel, by decide +kernel⟩
abbrev s_parse_pair : Stmt := top 28
theorem sc_parse_pair : FnScope ["base", "text", "mark", "pair"] ["base", "text", "mark"] (defScope s_parse_pair) := ⟨rfl, rfl, rfl, by decide +kernel, rfl, by decide +kernel, by decide +kernel⟩
abbrev s_pair_in : Stmt := top 29
theorem sc_pair_in : FnScope ["base", "text", "mark", "before", "found", "behind", "pair"] ["base", "text", "mark"] (defScope s_pair_in) := ⟨rfl, rfl, rfl, by decide +kernel, rfl, by decide +kernel, by decide +kernel⟩
abbrev s_number_in : Stmt := top 30
theorem sc_number_in : FnScope ["base", "text", "before", "mark", "behind", "exponent", "number"] ["base", "text"] (defScope s_number_in) := ⟨rfl, rfl, rfl, by decide +kernel, rfl, by decide +kernel, by decide +kernel⟩
abbrev s_sequence_in : Stmt := top 31
theorem sc_sequence_in : FnScope ["text", "sequence", "word"] ["text"] (defScope s_sequence_in) := ⟨rfl, rfl, rfl, by decide +kernel, rfl, by decide +kernel, by decide +kernel⟩
abbrev s_run_in : Stmt := top 32
theorem sc_run_in : FnScope ["word", "count"] ["word"] (defScope s_run_in) := ⟨rfl, rfl, rfl, by decide +kernel, rfl, by decide +kernel, by decide +kernel⟩
abbrev s_integer_in : Stmt := top 33
theorem sc_integer_in : FnScope ["text", "digits", "value", "at", "piece", "digit"] ["text"] (defScope s_integer_in) := ⟨rfl, rfl, rfl, by decide +kernel, rfl, by decide +kernel, by decide +kernel⟩
abbrev s_law_numbers : Stmt := top 35
theorem sc_law_numbers : FnScope ["_law_cell", "_law_salt", "_law_sizes", "_law_number_here", "_law_left", "_law_result", "_law_k", "_law_one"] ["_law_cell", "_law_salt", "_law_sizes"] (defScope s_law_numbers) := ⟨rfl, rfl, rfl, by decide +kernel, rfl, by decide +kernel, by decide +kernel⟩
abbrev s_law_form : Stmt := top 37
theorem sc_law_form : FnScope ["_law_base_here", "_law_numerator", "_law_exponent"] ["_law_base_here", "_law_numerator", "_law_exponent"] (defScope s_law_form) := ⟨rfl, rfl, rfl, by decide +kernel, rfl, by decide +kernel, by decide +kernel⟩
abbrev s_law_base : Stmt := top 39
theorem sc_law_base : FnScope ["_law_digit"] ["_law_digit"] (defScope s_law_base) := ⟨rfl, rfl, rfl, by decide +kernel, rfl, by decide +kernel, by decide +kernel⟩
abbrev s_law_integer : Stmt := top 40
theorem sc_law_integer : FnScope ["_law_digits", "_law_size", "_law_mixed", "_law_result"] ["_law_digits"] (defScope s_law_integer) := ⟨rfl, rfl, rfl, by decide +kernel, rfl, by decide +kernel, by decide +kernel⟩
abbrev s_law_number : Stmt := top 41
theorem sc_law_number : FnScope ["_law_base_here", "_law_digits"] ["_law_base_here", "_law_digits"] (defScope s_law_number) := ⟨rfl, rfl, rfl, by decide +kernel, rfl, by decide +kernel, by decide +kernel⟩
abbrev s_law_runs : Stmt := top 42
theorem sc_law_runs : FnScope ["_law_digits", "_law_many", "_law_result", "_law_k", "_law_operation", "_law_count"] ["_law_digits", "_law_many"] (defScope s_law_runs) := ⟨rfl, rfl, rfl, by decide +kernel, rfl, by decide +kernel, by decide +kernel⟩
abbrev s_law_integer_of : Stmt := top 43
theorem sc_law_integer_of : FnScope ["_law_text", "_law_digits", "_law_sign"] ["_law_text"] (defScope s_law_integer_of) := ⟨rfl, rfl, rfl, by decide +kernel, rfl, by decide +kernel, by decide +kernel⟩
abbrev s_law_number_of : Stmt := top 44
theorem sc_law_number_of : FnScope ["_law_base_here", "_law_text", "_law_parts", "_law_values", "_law_number_here", "_law_is_right", "_law_part"] ["_law_base_here", "_law_text"] (defScope s_law_number_of) := ⟨rfl, rfl, rfl, by decide +kernel, rfl, by decide +kernel, by decide +kernel⟩
abbrev s_law_pair_of : Stmt := top 45
theorem sc_law_pair_of : FnScope ["_law_base_here", "_law_text", "_law_mark", "_law_parts", "_law_number_here", "_law_place"] ["_law_base_here", "_law_text", "_law_mark"] (defScope s_law_pair_of) := ⟨rfl, rfl, rfl, by decide +kernel, rfl, by decide +kernel, by decide +kernel⟩
abbrev s_law_runs_of : Stmt := top 46
theorem sc_law_runs_of : FnScope ["_law_text", "_law_result", "_law_word", "_law_count"] ["_law_text"] (defScope s_law_runs_of) := ⟨rfl, rfl, rfl, by decide +kernel, rfl, by decide +kernel, by decide +kernel⟩
abbrev s_law_got : Stmt := top 47
theorem sc_law_got : FnScope ["_law_door", "_law_base_here", "_law_text", "_law_result", "e"] ["_law_door", "_law_base_here", "_law_text"] (defScope s_law_got) := ⟨rfl, rfl, rfl, by decide +kernel, rfl, by decide +kernel, by decide +kernel⟩
abbrev s_law_want : Stmt := top 48
theorem sc_law_want : FnScope ["_law_door", "_law_base_here", "_law_text", "_law_some"] ["_law_door", "_law_base_here", "_law_text"] (defScope s_law_want) := ⟨rfl, rfl, rfl, by decide +kernel, rfl, by decide +kernel, by decide +kernel⟩
abbrev s_law_altered : Stmt := top 49
theorem sc_law_altered : FnScope ["_law_digits", "_law_text", "_law_at", "_law_sign", "_law_words", "_law_some"] ["_law_digits", "_law_text"] (defScope s_law_altered) := ⟨rfl, rfl, rfl, by decide +kernel, rfl, by decide +kernel, by decide +kernel⟩
abbrev s_law : Stmt := top 50
theorem sc_law : FnScope ["_law_script", "_law_k", "_law_cell", "_law_digits", "_law_base_here", "_law_number_here", "_law_text", "_law_place", "_law_runs_here", "_law_words", "_law_some", "_law_turn", "_law_one", "_law_door", "_law_value", "_law_operation", "_law_count"] ["_law_script"] (defScope s_law) := ⟨rfl, rfl, rfl, by decide +kernel, rfl, by decide +kernel, by decide +kernel⟩
structure Tx (K : PySem.W.Frag) (mg : Str → Option Value) where
  f_is_whole : Addr
  fd_is_whole : FuncData
  is_whole : Df K mg "is_whole" s_is_whole ["value"] f_is_whole fd_is_whole
  f_is_within : Addr
  fd_is_within : FuncData
  is_within : Df K mg "is_within" s_is_within ["value", "low", "high"] f_is_within fd_is_within
  f_is_place : Addr
  fd_is_place : FuncData
  is_place : Df K mg "is_place" s_is_place ["value"] f_is_place fd_is_place
  f_power_of : Addr
  fd_power_of : FuncData
  power_of : Df K mg "power_of" s_power_of ["base", "count"] f_power_of fd_power_of
  f_is_number : Addr
  fd_is_number : FuncData
  is_number : Df K mg "is_number" s_is_number ["base", "value"] f_is_number fd_is_number
  f_has_few_digits : Addr
  fd_has_few_digits : FuncData
  has_few_digits : Df K mg "has_few_digits" s_has_few_digits ["numerator"] f_has_few_digits fd_has_few_digits
  f_is_sequence : Addr
  fd_is_sequence : FuncData
  is_sequence : Df K mg "is_sequence" s_is_sequence ["value"] f_is_sequence fd_is_sequence
  f_wrong_run : Addr
  fd_wrong_run : FuncData
  wrong_run : Df K mg "wrong_run" s_wrong_run ["values"] f_wrong_run fd_wrong_run
  f_is_run : Addr
  fd_is_run : FuncData
  is_run : Df K mg "is_run" s_is_run ["value"] f_is_run fd_is_run
  f_is_pair : Addr
  fd_is_pair : FuncData
  is_pair : Df K mg "is_pair" s_is_pair ["base", "value"] f_is_pair fd_is_pair
  f_parse_number : Addr
  fd_parse_number : FuncData
  parse_number : Df K mg "parse_number" s_parse_number ["base", "text"] f_parse_number fd_parse_number
  f_parse_state : Addr
  fd_parse_state : FuncData
  parse_state : Df K mg "parse_state" s_parse_state ["base", "text"] f_parse_state fd_parse_state
  f_parse_effect : Addr
  fd_parse_effect : FuncData
  parse_effect : Df K mg "parse_effect" s_parse_effect ["base", "text"] f_parse_effect fd_parse_effect
  f_parse_sequence : Addr
  fd_parse_sequence : FuncData
  parse_sequence : Df K mg "parse_sequence" s_parse_sequence ["text"] f_parse_sequence fd_parse_sequence
  f_parse_pair : Addr
  fd_parse_pair : FuncData
  parse_pair : Df K mg "parse_pair" s_parse_pair ["base", "text", "mark"] f_parse_pair fd_parse_pair
  f_pair_in : Addr
  fd_pair_in : FuncData
  pair_in : Df K mg "pair_in" s_pair_in ["base", "text", "mark"] f_pair_in fd_pair_in
  f_number_in : Addr
  fd_number_in : FuncData
  number_in : Df K mg "number_in" s_number_in ["base", "text"] f_number_in fd_number_in
  f_sequence_in : Addr
  fd_sequence_in : FuncData
  sequence_in : Df K mg "sequence_in" s_sequence_in ["text"] f_sequence_in fd_sequence_in
  f_run_in : Addr
  fd_run_in : FuncData
  run_in : Df K mg "run_in" s_run_in ["word"] f_run_in fd_run_in
  f_integer_in : Addr
  fd_integer_in : FuncData
  integer_in : Df K mg "integer_in" s_integer_in ["text"] f_integer_in fd_integer_in
  f_law_numbers : Addr
  fd_law_numbers : FuncData
  law_numbers : Df K mg "_law_numbers" s_law_numbers ["_law_cell", "_law_salt", "_law_sizes"] f_law_numbers fd_law_numbers
  f_law_form : Addr
  fd_law_form : FuncData
  law_form : Df K mg "_law_form" s_law_form ["_law_base_here", "_law_numerator", "_law_exponent"] f_law_form fd_law_form
  f_law_base : Addr
  fd_law_base : FuncData
  law_base : Df K mg "_law_base" s_law_base ["_law_digit"] f_law_base fd_law_base
  f_law_integer : Addr
  fd_law_integer : FuncData
  law_integer : Df K mg "_law_integer" s_law_integer ["_law_digits"] f_law_integer fd_law_integer
  f_law_number : Addr
  fd_law_number : FuncData
  law_number : Df K mg "_law_number" s_law_number ["_law_base_here", "_law_digits"] f_law_number fd_law_number
  f_law_runs : Addr
  fd_law_runs : FuncData
  law_runs : Df K mg "_law_runs" s_law_runs ["_law_digits", "_law_many"] f_law_runs fd_law_runs
  f_law_integer_of : Addr
  fd_law_integer_of : FuncData
  law_integer_of : Df K mg "_law_integer_of" s_law_integer_of ["_law_text"] f_law_integer_of fd_law_integer_of
  f_law_number_of : Addr
  fd_law_number_of : FuncData
  law_number_of : Df K mg "_law_number_of" s_law_number_of ["_law_base_here", "_law_text"] f_law_number_of fd_law_number_of
  f_law_pair_of : Addr
  fd_law_pair_of : FuncData
  law_pair_of : Df K mg "_law_pair_of" s_law_pair_of ["_law_base_here", "_law_text", "_law_mark"] f_law_pair_of fd_law_pair_of
  f_law_runs_of : Addr
  fd_law_runs_of : FuncData
  law_runs_of : Df K mg "_law_runs_of" s_law_runs_of ["_law_text"] f_law_runs_of fd_law_runs_of
  f_law_got : Addr
  fd_law_got : FuncData
  law_got : Df K mg "_law_got" s_law_got ["_law_door", "_law_base_here", "_law_text"] f_law_got fd_law_got
  f_law_want : Addr
  fd_law_want : FuncData
  law_want : Df K mg "_law_want" s_law_want ["_law_door", "_law_base_here", "_law_text"] f_law_want fd_law_want
  f_law_altered : Addr
  fd_law_altered : FuncData
  law_altered : Df K mg "_law_altered" s_law_altered ["_law_digits", "_law_text"] f_law_altered fd_law_altered
  f_law : Addr
  fd_law : FuncData
  law : Df K mg "law" s_law ["_law_script"] f_law fd_law
  C_InvalidNumber : Addr
  fI_InvalidNumber : Addr
  InvalidNumber : ErrTxt K mg C_InvalidNumber fI_InvalidNumber "InvalidNumber" "value" "Exception" "Exception.__new__" [.type "Exception", .type "BaseException", .type "object"]
  C_InvalidText : Addr
  fI_InvalidText : Addr
  InvalidText : ErrTxt K mg C_InvalidText fI_InvalidText "InvalidText" "value" "Exception" "Exception.__new__" [.type "Exception", .type "BaseException", .type "object"]
  C_HeadError : Addr
  h_HeadError : mg "HeadError" = some (.ref C_HeadError)
  t_MAX_PLACE : Tok
  c_MAX_PLACE : mg "MAX_PLACE" = some (.int 1000 t_MAX_PLACE)
  t_MAX_DIGITS : Tok
  c_MAX_DIGITS : mg "MAX_DIGITS" = some (.int 300 t_MAX_DIGITS)
  A_OPERATIONS : Addr
  c_OPERATIONS : mg "OPERATIONS" = some (.ref A_OPERATIONS)
  k_OPERATIONS : KonT K A_OPERATIONS ["R", "L", "A", "S"]
  t_DIGITS : Tok
  c_DIGITS : mg "DIGITS" = some (.str "0123456789" t_DIGITS)
  t_PIECE : Tok
  c_PIECE : mg "PIECE" = some (.int 1000 t_PIECE)
  b_abs : mg "abs" = none
  b_all : mg "all" = none
  b_bool : mg "bool" = none
  b_enumerate : mg "enumerate" = none
  b_int : mg "int" = none
  b_isinstance : mg "isinstance" = none
  b_len : mg "len" = none
  b_list : mg "list" = none
  b_max : mg "max" = none
  b_range : mg "range" = none
  b_repr : mg "repr" = none
  b_str : mg "str" = none
  b_tuple : mg "tuple" = none
  x_kit_InvalidText_HeadError : PySem.W.kitOne K (.ref C_InvalidText) (.ref C_HeadError) = some true
  x_kit_InvalidText_InvalidNumber : PySem.W.kitOne K (.ref C_InvalidText) (.ref C_InvalidNumber) = some false
  x_exm_InvalidNumber_InvalidText : PySem.W.exmOne K (.ref C_InvalidNumber) (.ref C_InvalidText) = some false
section
variable {K : PySem.W.Frag} {mg : Str → Option Value}
def Tx.et (T : Tx K mg) : ET := fun x => if x = "InvalidNumber" then some (T.C_InvalidNumber, ("value" : Str)) else if x = "InvalidText" then some (T.C_InvalidText, ("value" : Str)) else none
theorem Tx.et_InvalidText (T : Tx K mg) : T.et "InvalidText" = some (T.C_InvalidText, ("value" : Str)) := by simp [Tx.et]
theorem Tx.cat_InvalidText (T : Tx K mg) : CatOk K T.et (.ref T.C_InvalidText) (fun x => x == "InvalidText") := fun x C fld h => by
  unfold Tx.et at h
  by_cases h1 : x = "InvalidNumber"
  · rw [if_pos h1] at h; cases h; subst h1; exact T.x_exm_InvalidNumber_InvalidText
  rw [if_neg h1] at h; clear h1
  by_cases h1 : x = "InvalidText"
  · rw [if_pos h1] at h; cases h; subst h1; exact T.InvalidText.te
  rw [if_neg h1] at h; clear h1
  cases h
end
set_option maxHeartbeats 0 in
def mkTx {K : PySem.W.Frag} {h : Heap} {mg : Str → Option Value} (X : K.In h) (G : h.Ns mainGlobals mg)
  {f_is_whole : Addr} {od_is_whole an_is_whole : Option Addr} {sl_is_whole : Array (Option Value)} {oc_is_whole kV_is_whole dc_is_whole pm_is_whole cd_is_whole ct_is_whole : Value}
  {f_is_within : Addr} {od_is_within an_is_within : Option Addr} {sl_is_within : Array (Option Value)} {oc_is_within kV_is_within dc_is_within pm_is_within cd_is_within ct_is_within : Value}
  {f_is_place : Addr} {od_is_place an_is_place : Option Addr} {sl_is_place : Array (Option Value)} {oc_is_place kV_is_place dc_is_place pm_is_place cd_is_place ct_is_place : Value}
  {f_power_of : Addr} {od_power_of an_power_of : Option Addr} {sl_power_of : Array (Option Value)} {oc_power_of kV_power_of dc_power_of pm_power_of cd_power_of ct_power_of : Value}
  {f_is_number : Addr} {od_is_number an_is_number : Option Addr} {sl_is_number : Array (Option Value)} {oc_is_number kV_is_number dc_is_number pm_is_number cd_is_number ct_is_number : Value}
  {f_has_few_digits : Addr} {od_has_few_digits an_has_few_digits : Option Addr} {sl_has_few_digits : Array (Option Value)} {oc_has_few_digits kV_has_few_digits dc_has_few_digits pm_has_few_digits cd_has_few_digits ct_has_few_digits : Value}
  {f_is_sequence : Addr} {od_is_sequence an_is_sequence : Option Addr} {sl_is_sequence : Array (Option Value)} {oc_is_sequence kV_is_sequence dc_is_sequence pm_is_sequence cd_is_sequence ct_is_sequence : Value}
  {f_wrong_run : Addr} {od_wrong_run an_wrong_run : Option Addr} {sl_wrong_run : Array (Option Value)} {oc_wrong_run kV_wrong_run dc_wrong_run pm_wrong_run cd_wrong_run ct_wrong_run : Value}
  {f_is_run : Addr} {od_is_run an_is_run : Option Addr} {sl_is_run : Array (Option Value)} {oc_is_run kV_is_run dc_is_run pm_is_run cd_is_run ct_is_run : Value}
  {f_is_pair : Addr} {od_is_pair an_is_pair : Option Addr} {sl_is_pair : Array (Option Value)} {oc_is_pair kV_is_pair dc_is_pair pm_is_pair cd_is_pair ct_is_pair : Value}
  {f_parse_number : Addr} {od_parse_number an_parse_number : Option Addr} {sl_parse_number : Array (Option Value)} {oc_parse_number kV_parse_number dc_parse_number pm_parse_number cd_parse_number ct_parse_number : Value}
  {f_parse_state : Addr} {od_parse_state an_parse_state : Option Addr} {sl_parse_state : Array (Option Value)} {oc_parse_state kV_parse_state dc_parse_state pm_parse_state cd_parse_state ct_parse_state : Value}
  {f_parse_effect : Addr} {od_parse_effect an_parse_effect : Option Addr} {sl_parse_effect : Array (Option Value)} {oc_parse_effect kV_parse_effect dc_parse_effect pm_parse_effect cd_parse_effect ct_parse_effect : Value}
  {f_parse_sequence : Addr} {od_parse_sequence an_parse_sequence : Option Addr} {sl_parse_sequence : Array (Option Value)} {oc_parse_sequence kV_parse_sequence dc_parse_sequence pm_parse_sequence cd_parse_sequence ct_parse_sequence : Value}
  {f_parse_pair : Addr} {od_parse_pair an_parse_pair : Option Addr} {sl_parse_pair : Array (Option Value)} {oc_parse_pair kV_parse_pair dc_parse_pair pm_parse_pair cd_parse_pair ct_parse_pair : Value}
  {f_pair_in : Addr} {od_pair_in an_pair_in : Option Addr} {sl_pair_in : Array (Option Value)} {oc_pair_in kV_pair_in dc_pair_in pm_pair_in cd_pair_in ct_pair_in : Value}
  {f_number_in : Addr} {od_number_in an_number_in : Option Addr} {sl_number_in : Array (Option Value)} {oc_number_in kV_number_in dc_number_in pm_number_in cd_number_in ct_number_in : Value}
  {f_sequence_in : Addr} {od_sequence_in an_sequence_in : Option Addr} {sl_sequence_in : Array (Option Value)} {oc_sequence_in kV_sequence_in dc_sequence_in pm_sequence_in cd_sequence_in ct_sequence_in : Value}
  {f_run_in : Addr} {od_run_in an_run_in : Option Addr} {sl_run_in : Array (Option Value)} {oc_run_in kV_run_in dc_run_in pm_run_in cd_run_in ct_run_in : Value}
  {f_integer_in : Addr} {od_integer_in an_integer_in : Option Addr} {sl_integer_in : Array (Option Value)} {oc_integer_in kV_integer_in dc_integer_in pm_integer_in cd_integer_in ct_integer_in : Value}
  {f_law_numbers : Addr} {od_law_numbers an_law_numbers : Option Addr} {sl_law_numbers : Array (Option Value)} {oc_law_numbers kV_law_numbers dc_law_numbers pm_law_numbers cd_law_numbers ct_law_numbers : Value}
  {f_law_form : Addr} {od_law_form an_law_form : Option Addr} {sl_law_form : Array (Option Value)} {oc_law_form kV_law_form dc_law_form pm_law_form cd_law_form ct_law_form : Value}
  {f_law_base : Addr} {od_law_base an_law_base : Option Addr} {sl_law_base : Array (Option Value)} {oc_law_base kV_law_base dc_law_base pm_law_base cd_law_base ct_law_base : Value}
  {f_law_integer : Addr} {od_law_integer an_law_integer : Option Addr} {sl_law_integer : Array (Option Value)} {oc_law_integer kV_law_integer dc_law_integer pm_law_integer cd_law_integer ct_law_integer : Value}
  {f_law_number : Addr} {od_law_number an_law_number : Option Addr} {sl_law_number : Array (Option Value)} {oc_law_number kV_law_number dc_law_number pm_law_number cd_law_number ct_law_number : Value}
  {f_law_runs : Addr} {od_law_runs an_law_runs : Option Addr} {sl_law_runs : Array (Option Value)} {oc_law_runs kV_law_runs dc_law_runs pm_law_runs cd_law_runs ct_law_runs : Value}
  {f_law_integer_of : Addr} {od_law_integer_of an_law_integer_of : Option Addr} {sl_law_integer_of : Array (Option Value)} {oc_law_integer_of kV_law_integer_of dc_law_integer_of pm_law_integer_of cd_law_integer_of ct_law_integer_of : Value}
  {f_law_number_of : Addr} {od_law_number_of an_law_number_of : Option Addr} {sl_law_number_of : Array (Option Value)} {oc_law_number_of kV_law_number_of dc_law_number_of pm_law_number_of cd_law_number_of ct_law_number_of : Value}
  {f_law_pair_of : Addr} {od_law_pair_of an_law_pair_of : Option Addr} {sl_law_pair_of : Array (Option Value)} {oc_law_pair_of kV_law_pair_of dc_law_pair_of pm_law_pair_of cd_law_pair_of ct_law_pair_of : Value}
  {f_law_runs_of : Addr} {od_law_runs_of an_law_runs_of : Option Addr} {sl_law_runs_of : Array (Option Value)} {oc_law_runs_of kV_law_runs_of dc_law_runs_of pm_law_runs_of cd_law_runs_of ct_law_runs_of : Value}
  {f_law_got : Addr} {od_law_got an_law_got : Option Addr} {sl_law_got : Array (Option Value)} {oc_law_got kV_law_got dc_law_got pm_law_got cd_law_got ct_law_got : Value}
  {f_law_want : Addr} {od_law_want an_law_want : Option Addr} {sl_law_want : Array (Option Value)} {oc_law_want kV_law_want dc_law_want pm_law_want cd_law_want ct_law_want : Value}
  {f_law_altered : Addr} {od_law_altered an_law_altered : Option Addr} {sl_law_altered : Array (Option Value)} {oc_law_altered kV_law_altered dc_law_altered pm_law_altered cd_law_altered ct_law_altered : Value}
  {f_law : Addr} {od_law an_law : Option Addr} {sl_law : Array (Option Value)} {oc_law kV_law dc_law pm_law cd_law ct_law : Value}
  {C_InvalidNumber I_InvalidNumber N_InvalidNumber : Addr} {nm_InvalidNumber q_InvalidNumber : Str} {bs_InvalidNumber bm_InvalidNumber sub_InvalidNumber : List Value} {sn_InvalidNumber : List Str} {ab_InvalidNumber : Bool} {col_InvalidNumber : Option Bool} {dd_InvalidNumber : Option Addr} {m0_InvalidNumber m1_InvalidNumber m2_InvalidNumber m3_InvalidNumber m5_InvalidNumber : Option Value}
  {od_InvalidNumber an_InvalidNumber : Option Addr} {sl_InvalidNumber : Array (Option Value)} {oc_InvalidNumber dc_InvalidNumber pm_InvalidNumber cd_InvalidNumber cv_InvalidNumber : Value}
  {C_InvalidText I_InvalidText N_InvalidText : Addr} {nm_InvalidText q_InvalidText : Str} {bs_InvalidText bm_InvalidText sub_InvalidText : List Value} {sn_InvalidText : List Str} {ab_InvalidText : Bool} {col_InvalidText : Option Bool} {dd_InvalidText : Option Addr} {m0_InvalidText m1_InvalidText m2_InvalidText m3_InvalidText m5_InvalidText : Option Value}
  {od_InvalidText an_InvalidText : Option Addr} {sl_InvalidText : Array (Option Value)} {oc_InvalidText dc_InvalidText pm_InvalidText cd_InvalidText cv_InvalidText : Value}
  {C_HeadError : Addr}
  {t_MAX_PLACE : Tok}
  {t_MAX_DIGITS : Tok}
  {A_OPERATIONS : Addr} {od_OPERATIONS : Option Addr} {n_OPERATIONS : Nat} {sl_OPERATIONS : Array (Option Value)} {t0_OPERATIONS t1_OPERATIONS t2_OPERATIONS t3_OPERATIONS : Tok}
  {t_DIGITS : Tok}
  {t_PIECE : Tok}
  (a_is_whole : PySem.W.nsIn K mainGlobals "is_whole" = some (some (.ref f_is_whole)))
  (l_is_whole : K.lookup f_is_whole = some ⟨oc_is_whole, od_is_whole, .func (PySem.W.fnOf "is_whole" "is_whole" (defArgs s_is_whole) (defBody s_is_whole) (defScope s_is_whole) .none kV_is_whole dc_is_whole pm_is_whole an_is_whole cd_is_whole ct_is_whole), sl_is_whole⟩)
  (c_is_whole : PySem.W.codeIn K cd_is_whole "is_whole" = true)
  (k_is_whole : PySem.W.keepIn K (.ref f_is_whole) = true)
  (a_is_within : PySem.W.nsIn K mainGlobals "is_within" = some (some (.ref f_is_within)))
  (l_is_within : K.lookup f_is_within = some ⟨oc_is_within, od_is_within, .func (PySem.W.fnOf "is_within" "is_within" (defArgs s_is_within) (defBody s_is_within) (defScope s_is_within) .none kV_is_within dc_is_within pm_is_within an_is_within cd_is_within ct_is_within), sl_is_within⟩)
  (c_is_within : PySem.W.codeIn K cd_is_within "is_within" = true)
  (k_is_within : PySem.W.keepIn K (.ref f_is_within) = true)
  (a_is_place : PySem.W.nsIn K mainGlobals "is_place" = some (some (.ref f_is_place)))
  (l_is_place : K.lookup f_is_place = some ⟨oc_is_place, od_is_place, .func (PySem.W.fnOf "is_place" "is_place" (defArgs s_is_place) (defBody s_is_place) (defScope s_is_place) .none kV_is_place dc_is_place pm_is_place an_is_place cd_is_place ct_is_place), sl_is_place⟩)
  (c_is_place : PySem.W.codeIn K cd_is_place "is_place" = true)
  (k_is_place : PySem.W.keepIn K (.ref f_is_place) = true)
  (a_power_of : PySem.W.nsIn K mainGlobals "power_of" = some (some (.ref f_power_of)))
  (l_power_of : K.lookup f_power_of = some ⟨oc_power_of, od_power_of, .func (PySem.W.fnOf "power_of" "power_of" (defArgs s_power_of) (defBody s_power_of) (defScope s_power_of) .none kV_power_of dc_power_of pm_power_of an_power_of cd_power_of ct_power_of), sl_power_of⟩)
  (c_power_of : PySem.W.codeIn K cd_power_of "power_of" = true)
  (k_power_of : PySem.W.keepIn K (.ref f_power_of) = true)
  (a_is_number : PySem.W.nsIn K mainGlobals "is_number" = some (some (.ref f_is_number)))
  (l_is_number : K.lookup f_is_number = some ⟨oc_is_number, od_is_number, .func (PySem.W.fnOf "is_number" "is_number" (defArgs s_is_number) (defBody s_is_number) (defScope s_is_number) .none kV_is_number dc_is_number pm_is_number an_is_number cd_is_number ct_is_number), sl_is_number⟩)
  (c_is_number : PySem.W.codeIn K cd_is_number "is_number" = true)
  (k_is_number : PySem.W.keepIn K (.ref f_is_number) = true)
  (a_has_few_digits : PySem.W.nsIn K mainGlobals "has_few_digits" = some (some (.ref f_has_few_digits)))
  (l_has_few_digits : K.lookup f_has_few_digits = some ⟨oc_has_few_digits, od_has_few_digits, .func (PySem.W.fnOf "has_few_digits" "has_few_digits" (defArgs s_has_few_digits) (defBody s_has_few_digits) (defScope s_has_few_digits) .none kV_has_few_digits dc_has_few_digits pm_has_few_digits an_has_few_digits cd_has_few_digits ct_has_few_digits), sl_has_few_digits⟩)
  (c_has_few_digits : PySem.W.codeIn K cd_has_few_digits "has_few_digits" = true)
  (k_has_few_digits : PySem.W.keepIn K (.ref f_has_few_digits) = true)
  (a_is_sequence : PySem.W.nsIn K mainGlobals "is_sequence" = some (some (.ref f_is_sequence)))
  (l_is_sequence : K.lookup f_is_sequence = some ⟨oc_is_sequence, od_is_sequence, .func (PySem.W.fnOf "is_sequence" "is_sequence" (defArgs s_is_sequence) (defBody s_is_sequence) (defScope s_is_sequence) .none kV_is_sequence dc_is_sequence pm_is_sequence an_is_sequence cd_is_sequence ct_is_sequence), sl_is_sequence⟩)
  (c_is_sequence : PySem.W.codeIn K cd_is_sequence "is_sequence" = true)
  (k_is_sequence : PySem.W.keepIn K (.ref f_is_sequence) = true)
  (a_wrong_run : PySem.W.nsIn K mainGlobals "wrong_run" = some (some (.ref f_wrong_run)))
  (l_wrong_run : K.lookup f_wrong_run = some ⟨oc_wrong_run, od_wrong_run, .func (PySem.W.fnOf "wrong_run" "wrong_run" (defArgs s_wrong_run) (defBody s_wrong_run) (defScope s_wrong_run) .none kV_wrong_run dc_wrong_run pm_wrong_run an_wrong_run cd_wrong_run ct_wrong_run), sl_wrong_run⟩)
  (c_wrong_run : PySem.W.codeIn K cd_wrong_run "wrong_run" = true)
  (k_wrong_run : PySem.W.keepIn K (.ref f_wrong_run) = true)
  (a_is_run : PySem.W.nsIn K mainGlobals "is_run" = some (some (.ref f_is_run)))
  (l_is_run : K.lookup f_is_run = some ⟨oc_is_run, od_is_run, .func (PySem.W.fnOf "is_run" "is_run" (defArgs s_is_run) (defBody s_is_run) (defScope s_is_run) .none kV_is_run dc_is_run pm_is_run an_is_run cd_is_run ct_is_run), sl_is_run⟩)
  (c_is_run : PySem.W.codeIn K cd_is_run "is_run" = true)
  (k_is_run : PySem.W.keepIn K (.ref f_is_run) = true)
  (a_is_pair : PySem.W.nsIn K mainGlobals "is_pair" = some (some (.ref f_is_pair)))
  (l_is_pair : K.lookup f_is_pair = some ⟨oc_is_pair, od_is_pair, .func (PySem.W.fnOf "is_pair" "is_pair" (defArgs s_is_pair) (defBody s_is_pair) (defScope s_is_pair) .none kV_is_pair dc_is_pair pm_is_pair an_is_pair cd_is_pair ct_is_pair), sl_is_pair⟩)
  (c_is_pair : PySem.W.codeIn K cd_is_pair "is_pair" = true)
  (k_is_pair : PySem.W.keepIn K (.ref f_is_pair) = true)
  (a_parse_number : PySem.W.nsIn K mainGlobals "parse_number" = some (some (.ref f_parse_number)))
  (l_parse_number : K.lookup f_parse_number = some ⟨oc_parse_number, od_parse_number, .func (PySem.W.fnOf "parse_number" "parse_number" (defArgs s_parse_number) (defBody s_parse_number) (defScope s_parse_number) .none kV_parse_number dc_parse_number pm_parse_number an_parse_number cd_parse_number ct_parse_number), sl_parse_number⟩)
  (c_parse_number : PySem.W.codeIn K cd_parse_number "parse_number" = true)
  (k_parse_number : PySem.W.keepIn K (.ref f_parse_number) = true)
  (a_parse_state : PySem.W.nsIn K mainGlobals "parse_state" = some (some (.ref f_parse_state)))
  (l_parse_state : K.lookup f_parse_state = some ⟨oc_parse_state, od_parse_state, .func (PySem.W.fnOf "parse_state" "parse_state" (defArgs s_parse_state) (defBody s_parse_state) (defScope s_parse_state) .none kV_parse_state dc_parse_state pm_parse_state an_parse_state cd_parse_state ct_parse_state), sl_parse_state⟩)
  (c_parse_state : PySem.W.codeIn K cd_parse_state "parse_state" = true)
  (k_parse_state : PySem.W.keepIn K (.ref f_parse_state) = true)
  (a_parse_effect : PySem.W.nsIn K mainGlobals "parse_effect" = some (some (.ref f_parse_effect)))
  (l_parse_effect : K.lookup f_parse_effect = some ⟨oc_parse_effect, od_parse_effect, .func (PySem.W.fnOf "parse_effect" "parse_effect" (defArgs s_parse_effect) (defBody s_parse_effect) (defScope s_parse_effect) .none kV_parse_effect dc_parse_effect pm_parse_effect an_parse_effect cd_parse_effect ct_parse_effect), sl_parse_effect⟩)
  (c_parse_effect : PySem.W.codeIn K cd_parse_effect "parse_effect" = true)
  (k_parse_effect : PySem.W.keepIn K (.ref f_parse_effect) = true)
  (a_parse_sequence : PySem.W.nsIn K mainGlobals "parse_sequence" = some (some (.ref f_parse_sequence)))
  (l_parse_sequence : K.lookup f_parse_sequence = some ⟨oc_parse_sequence, od_parse_sequence, .func (PySem.W.fnOf "parse_sequence" "parse_sequence" (defArgs s_parse_sequence) (defBody s_parse_sequence) (defScope s_parse_sequence) .none kV_parse_sequence dc_parse_sequence pm_parse_sequence an_parse_sequence cd_parse_sequence ct_parse_sequence), sl_parse_sequence⟩)
  (c_parse_sequence : PySem.W.codeIn K cd_parse_sequence "parse_sequence" = true)
  (k_parse_sequence : PySem.W.keepIn K (.ref f_parse_sequence) = true)
  (a_parse_pair : PySem.W.nsIn K mainGlobals "parse_pair" = some (some (.ref f_parse_pair)))
  (l_parse_pair : K.lookup f_parse_pair = some ⟨oc_parse_pair, od_parse_pair, .func (PySem.W.fnOf "parse_pair" "parse_pair" (defArgs s_parse_pair) (defBody s_parse_pair) (defScope s_parse_pair) .none kV_parse_pair dc_parse_pair pm_parse_pair an_parse_pair cd_parse_pair ct_parse_pair), sl_parse_pair⟩)
  (c_parse_pair : PySem.W.codeIn K cd_parse_pair "parse_pair" = true)
  (k_parse_pair : PySem.W.keepIn K (.ref f_parse_pair) = true)
  (a_pair_in : PySem.W.nsIn K mainGlobals "pair_in" = some (some (.ref f_pair_in)))
  (l_pair_in : K.lookup f_pair_in = some ⟨oc_pair_in, od_pair_in, .func (PySem.W.fnOf "pair_in" "pair_in" (defArgs s_pair_in) (defBody s_pair_in) (defScope s_pair_in) .none kV_pair_in dc_pair_in pm_pair_in an_pair_in cd_pair_in ct_pair_in), sl_pair_in⟩)
  (c_pair_in : PySem.W.codeIn K cd_pair_in "pair_in" = true)
  (k_pair_in : PySem.W.keepIn K (.ref f_pair_in) = true)
  (a_number_in : PySem.W.nsIn K mainGlobals "number_in" = some (some (.ref f_number_in)))
  (l_number_in : K.lookup f_number_in = some ⟨oc_number_in, od_number_in, .func (PySem.W.fnOf "number_in" "number_in" (defArgs s_number_in) (defBody s_number_in) (defScope s_number_in) .none kV_number_in dc_number_in pm_number_in an_number_in cd_number_in ct_number_in), sl_number_in⟩)
  (c_number_in : PySem.W.codeIn K cd_number_in "number_in" = true)
  (k_number_in : PySem.W.keepIn K (.ref f_number_in) = true)
  (a_sequence_in : PySem.W.nsIn K mainGlobals "sequence_in" = some (some (.ref f_sequence_in)))
  (l_sequence_in : K.lookup f_sequence_in = some ⟨oc_sequence_in, od_sequence_in, .func (PySem.W.fnOf "sequence_in" "sequence_in" (defArgs s_sequence_in) (defBody s_sequence_in) (defScope s_sequence_in) .none kV_sequence_in dc_sequence_in pm_sequence_in an_sequence_in cd_sequence_in ct_sequence_in), sl_sequence_in⟩)
  (c_sequence_in : PySem.W.codeIn K cd_sequence_in "sequence_in" = true)
  (k_sequence_in : PySem.W.keepIn K (.ref f_sequence_in) = true)
  (a_run_in : PySem.W.nsIn K mainGlobals "run_in" = some (some (.ref f_run_in)))
  (l_run_in : K.lookup f_run_in = some ⟨oc_run_in, od_run_in, .func (PySem.W.fnOf "run_in" "run_in" (defArgs s_run_in) (defBody s_run_in) (defScope s_run_in) .none kV_run_in dc_run_in pm_run_in an_run_in cd_run_in ct_run_in), sl_run_in⟩)
  (c_run_in : PySem.W.codeIn K cd_run_in "run_in" = true)
  (k_run_in : PySem.W.keepIn K (.ref f_run_in) = true)
  (a_integer_in : PySem.W.nsIn K mainGlobals "integer_in" = some (some (.ref f_integer_in)))
  (l_integer_in : K.lookup f_integer_in = some ⟨oc_integer_in, od_integer_in, .func (PySem.W.fnOf "integer_in" "integer_in" (defArgs s_integer_in) (defBody s_integer_in) (defScope s_integer_in) .none kV_integer_in dc_integer_in pm_integer_in an_integer_in cd_integer_in ct_integer_in), sl_integer_in⟩)
  (c_integer_in : PySem.W.codeIn K cd_integer_in "integer_in" = true)
  (k_integer_in : PySem.W.keepIn K (.ref f_integer_in) = true)
  (a_law_numbers : PySem.W.nsIn K mainGlobals "_law_numbers" = some (some (.ref f_law_numbers)))
  (l_law_numbers : K.lookup f_law_numbers = some ⟨oc_law_numbers, od_law_numbers, .func (PySem.W.fnOf "_law_numbers" "_law_numbers" (defArgs s_law_numbers) (defBody s_law_numbers) (defScope s_law_numbers) .none kV_law_numbers dc_law_numbers pm_law_numbers an_law_numbers cd_law_numbers ct_law_numbers), sl_law_numbers⟩)
  (c_law_numbers : PySem.W.codeIn K cd_law_numbers "_law_numbers" = true)
  (k_law_numbers : PySem.W.keepIn K (.ref f_law_numbers) = true)
  (a_law_form : PySem.W.nsIn K mainGlobals "_law_form" = some (some (.ref f_law_form)))
  (l_law_form : K.lookup f_law_form = some ⟨oc_law_form, od_law_form, .func (PySem.W.fnOf "_law_form" "_law_form" (defArgs s_law_form) (defBody s_law_form) (defScope s_law_form) .none kV_law_form dc_law_form pm_law_form an_law_form cd_law_form ct_law_form), sl_law_form⟩)
  (c_law_form : PySem.W.codeIn K cd_law_form "_law_form" = true)
  (k_law_form : PySem.W.keepIn K (.ref f_law_form) = true)
  (a_law_base : PySem.W.nsIn K mainGlobals "_law_base" = some (some (.ref f_law_base)))
  (l_law_base : K.lookup f_law_base = some ⟨oc_law_base, od_law_base, .func (PySem.W.fnOf "_law_base" "_law_base" (defArgs s_law_base) (defBody s_law_base) (defScope s_law_base) .none kV_law_base dc_law_base pm_law_base an_law_base cd_law_base ct_law_base), sl_law_base⟩)
  (c_law_base : PySem.W.codeIn K cd_law_base "_law_base" = true)
  (k_law_base : PySem.W.keepIn K (.ref f_law_base) = true)
  (a_law_integer : PySem.W.nsIn K mainGlobals "_law_integer" = some (some (.ref f_law_integer)))
  (l_law_integer : K.lookup f_law_integer = some ⟨oc_law_integer, od_law_integer, .func (PySem.W.fnOf "_law_integer" "_law_integer" (defArgs s_law_integer) (defBody s_law_integer) (defScope s_law_integer) .none kV_law_integer dc_law_integer pm_law_integer an_law_integer cd_law_integer ct_law_integer), sl_law_integer⟩)
  (c_law_integer : PySem.W.codeIn K cd_law_integer "_law_integer" = true)
  (k_law_integer : PySem.W.keepIn K (.ref f_law_integer) = true)
  (a_law_number : PySem.W.nsIn K mainGlobals "_law_number" = some (some (.ref f_law_number)))
  (l_law_number : K.lookup f_law_number = some ⟨oc_law_number, od_law_number, .func (PySem.W.fnOf "_law_number" "_law_number" (defArgs s_law_number) (defBody s_law_number) (defScope s_law_number) .none kV_law_number dc_law_number pm_law_number an_law_number cd_law_number ct_law_number), sl_law_number⟩)
  (c_law_number : PySem.W.codeIn K cd_law_number "_law_number" = true)
  (k_law_number : PySem.W.keepIn K (.ref f_law_number) = true)
  (a_law_runs : PySem.W.nsIn K mainGlobals "_law_runs" = some (some (.ref f_law_runs)))
  (l_law_runs : K.lookup f_law_runs = some ⟨oc_law_runs, od_law_runs, .func (PySem.W.fnOf "_law_runs" "_law_runs" (defArgs s_law_runs) (defBody s_law_runs) (defScope s_law_runs) .none kV_law_runs dc_law_runs pm_law_runs an_law_runs cd_law_runs ct_law_runs), sl_law_runs⟩)
  (c_law_runs : PySem.W.codeIn K cd_law_runs "_law_runs" = true)
  (k_law_runs : PySem.W.keepIn K (.ref f_law_runs) = true)
  (a_law_integer_of : PySem.W.nsIn K mainGlobals "_law_integer_of" = some (some (.ref f_law_integer_of)))
  (l_law_integer_of : K.lookup f_law_integer_of = some ⟨oc_law_integer_of, od_law_integer_of, .func (PySem.W.fnOf "_law_integer_of" "_law_integer_of" (defArgs s_law_integer_of) (defBody s_law_integer_of) (defScope s_law_integer_of) .none kV_law_integer_of dc_law_integer_of pm_law_integer_of an_law_integer_of cd_law_integer_of ct_law_integer_of), sl_law_integer_of⟩)
  (c_law_integer_of : PySem.W.codeIn K cd_law_integer_of "_law_integer_of" = true)
  (k_law_integer_of : PySem.W.keepIn K (.ref f_law_integer_of) = true)
  (a_law_number_of : PySem.W.nsIn K mainGlobals "_law_number_of" = some (some (.ref f_law_number_of)))
  (l_law_number_of : K.lookup f_law_number_of = some ⟨oc_law_number_of, od_law_number_of, .func (PySem.W.fnOf "_law_number_of" "_law_number_of" (defArgs s_law_number_of) (defBody s_law_number_of) (defScope s_law_number_of) .none kV_law_number_of dc_law_number_of pm_law_number_of an_law_number_of cd_law_number_of ct_law_number_of), sl_law_number_of⟩)
  (c_law_number_of : PySem.W.codeIn K cd_law_number_of "_law_number_of" = true)
  (k_law_number_of : PySem.W.keepIn K (.ref f_law_number_of) = true)
  (a_law_pair_of : PySem.W.nsIn K mainGlobals "_law_pair_of" = some (some (.ref f_law_pair_of)))
  (l_law_pair_of : K.lookup f_law_pair_of = some ⟨oc_law_pair_of, od_law_pair_of, .func (PySem.W.fnOf "_law_pair_of" "_law_pair_of" (defArgs s_law_pair_of) (defBody s_law_pair_of) (defScope s_law_pair_of) .none kV_law_pair_of dc_law_pair_of pm_law_pair_of an_law_pair_of cd_law_pair_of ct_law_pair_of), sl_law_pair_of⟩)
  (c_law_pair_of : PySem.W.codeIn K cd_law_pair_of "_law_pair_of" = true)
  (k_law_pair_of : PySem.W.keepIn K (.ref f_law_pair_of) = true)
  (a_law_runs_of : PySem.W.nsIn K mainGlobals "_law_runs_of" = some (some (.ref f_law_runs_of)))
  (l_law_runs_of : K.lookup f_law_runs_of = some ⟨oc_law_runs_of, od_law_runs_of, .func (PySem.W.fnOf "_law_runs_of" "_law_runs_of" (defArgs s_law_runs_of) (defBody s_law_runs_of) (defScope s_law_runs_of) .none kV_law_runs_of dc_law_runs_of pm_law_runs_of an_law_runs_of cd_law_runs_of ct_law_runs_of), sl_law_runs_of⟩)
  (c_law_runs_of : PySem.W.codeIn K cd_law_runs_of "_law_runs_of" = true)
  (k_law_runs_of : PySem.W.keepIn K (.ref f_law_runs_of) = true)
  (a_law_got : PySem.W.nsIn K mainGlobals "_law_got" = some (some (.ref f_law_got)))
  (l_law_got : K.lookup f_law_got = some ⟨oc_law_got, od_law_got, .func (PySem.W.fnOf "_law_got" "_law_got" (defArgs s_law_got) (defBody s_law_got) (defScope s_law_got) .none kV_law_got dc_law_got pm_law_got an_law_got cd_law_got ct_law_got), sl_law_got⟩)
  (c_law_got : PySem.W.codeIn K cd_law_got "_law_got" = true)
  (k_law_got : PySem.W.keepIn K (.ref f_law_got) = true)
  (a_law_want : PySem.W.nsIn K mainGlobals "_law_want" = some (some (.ref f_law_want)))
  (l_law_want : K.lookup f_law_want = some ⟨oc_law_want, od_law_want, .func (PySem.W.fnOf "_law_want" "_law_want" (defArgs s_law_want) (defBody s_law_want) (defScope s_law_want) .none kV_law_want dc_law_want pm_law_want an_law_want cd_law_want ct_law_want), sl_law_want⟩)
  (c_law_want : PySem.W.codeIn K cd_law_want "_law_want" = true)
  (k_law_want : PySem.W.keepIn K (.ref f_law_want) = true)
  (a_law_altered : PySem.W.nsIn K mainGlobals "_law_altered" = some (some (.ref f_law_altered)))
  (l_law_altered : K.lookup f_law_altered = some ⟨oc_law_altered, od_law_altered, .func (PySem.W.fnOf "_law_altered" "_law_altered" (defArgs s_law_altered) (defBody s_law_altered) (defScope s_law_altered) .none kV_law_altered dc_law_altered pm_law_altered an_law_altered cd_law_altered ct_law_altered), sl_law_altered⟩)
  (c_law_altered : PySem.W.codeIn K cd_law_altered "_law_altered" = true)
  (k_law_altered : PySem.W.keepIn K (.ref f_law_altered) = true)
  (a_law : PySem.W.nsIn K mainGlobals "law" = some (some (.ref f_law)))
  (l_law : K.lookup f_law = some ⟨oc_law, od_law, .func (PySem.W.fnOf "law" "law" (defArgs s_law) (defBody s_law) (defScope s_law) .none kV_law dc_law pm_law an_law cd_law ct_law), sl_law⟩)
  (c_law : PySem.W.codeIn K cd_law "law" = true)
  (k_law : PySem.W.keepIn K (.ref f_law) = true)
  (a_InvalidNumber : PySem.W.nsIn K mainGlobals "InvalidNumber" = some (some (.ref C_InvalidNumber)))
  (x_InvalidNumber : K.lookup C_InvalidNumber = some (excClassObj nm_InvalidNumber q_InvalidNumber C_InvalidNumber N_InvalidNumber bs_InvalidNumber bm_InvalidNumber true sn_InvalidNumber sub_InvalidNumber ab_InvalidNumber col_InvalidNumber dd_InvalidNumber m0_InvalidNumber m1_InvalidNumber m2_InvalidNumber m3_InvalidNumber m5_InvalidNumber "Exception.__new__"))
  (xt_InvalidNumber : PySem.W.excTail [.type "Exception", .type "BaseException", .type "object"] bm_InvalidNumber = true)
  (ov_InvalidNumber : PySem.W.excOver K C_InvalidNumber [.type "Exception", .type "BaseException", .type "object"] = true)
  (sa_InvalidNumber : PySem.W.findIn K (.ref C_InvalidNumber) "__setattr__" = some (some (.builtin "object.__setattr__")))
  (ga_InvalidNumber : PySem.W.findIn K (.ref C_InvalidNumber) "__getattribute__" = some (some (.builtin "BaseException.__getattribute__")))
  (gg_InvalidNumber : PySem.W.findIn K (.ref C_InvalidNumber) "__getattr__" = some none)
  (nn_InvalidNumber : PySem.W.findIn K (.ref C_InvalidNumber) "value" = some none)
  (ii_InvalidNumber : PySem.W.findIn K (.ref C_InvalidNumber) "__init__" = some (some (.ref I_InvalidNumber)))
  (cc_InvalidNumber : PySem.W.findIn K (.ref C_InvalidNumber) "__class__" = some (some (.builtin "object.__class__")))
  (ti_InvalidNumber : PySem.W.typeIn K (.ref I_InvalidNumber) = some (.type "function"))
  (kc_InvalidNumber : PySem.W.keepIn K (.ref C_InvalidNumber) = true)
  (ex_InvalidNumber : PySem.W.subIn K (.ref C_InvalidNumber) (.type "BaseException") = some true)
  (tc_InvalidNumber : PySem.W.typeIn K (.ref C_InvalidNumber) = some (.type "type"))
  (hd_InvalidNumber : PySem.W.hasDictIn K C_InvalidNumber = true)
  (te_InvalidNumber : PySem.W.exmOne K (.ref C_InvalidNumber) (.ref C_InvalidNumber) = some true)
  (cn_InvalidNumber : PySem.W.specialIn K (.builtin "object.__class__") "__get__" = some (some (.builtin "getset_descriptor.__get__")))
  (ct_InvalidNumber : PySem.W.takesIn K (.builtin "object.__class__") = some true)
  (cm_InvalidNumber : PySem.W.mroIn K C_InvalidNumber (.type "object") = some true)
  (li_InvalidNumber : K.lookup I_InvalidNumber = some ⟨oc_InvalidNumber, od_InvalidNumber, .func (PySem.W.fnOf "__init__" "InvalidNumber.__init__" (defArgs (inClass (top 2) 0)) (defBody (inClass (top 2) 0)) (defScope (inClass (top 2) 0)) .none .none dc_InvalidNumber pm_InvalidNumber an_InvalidNumber cd_InvalidNumber cv_InvalidNumber), sl_InvalidNumber⟩)
  (ci_InvalidNumber : PySem.W.codeIn K cd_InvalidNumber "InvalidNumber.__init__" = true)
  (a_InvalidText : PySem.W.nsIn K mainGlobals "InvalidText" = some (some (.ref C_InvalidText)))
  (x_InvalidText : K.lookup C_InvalidText = some (excClassObj nm_InvalidText q_InvalidText C_InvalidText N_InvalidText bs_InvalidText bm_InvalidText true sn_InvalidText sub_InvalidText ab_InvalidText col_InvalidText dd_InvalidText m0_InvalidText m1_InvalidText m2_InvalidText m3_InvalidText m5_InvalidText "Exception.__new__"))
  (xt_InvalidText : PySem.W.excTail [.type "Exception", .type "BaseException", .type "object"] bm_InvalidText = true)
  (ov_InvalidText : PySem.W.excOver K C_InvalidText [.type "Exception", .type "BaseException", .type "object"] = true)
  (sa_InvalidText : PySem.W.findIn K (.ref C_InvalidText) "__setattr__" = some (some (.builtin "object.__setattr__")))
  (ga_InvalidText : PySem.W.findIn K (.ref C_InvalidText) "__getattribute__" = some (some (.builtin "BaseException.__getattribute__")))
  (gg_InvalidText : PySem.W.findIn K (.ref C_InvalidText) "__getattr__" = some none)
  (nn_InvalidText : PySem.W.findIn K (.ref C_InvalidText) "value" = some none)
  (ii_InvalidText : PySem.W.findIn K (.ref C_InvalidText) "__init__" = some (some (.ref I_InvalidText)))
  (cc_InvalidText : PySem.W.findIn K (.ref C_InvalidText) "__class__" = some (some (.builtin "object.__class__")))
  (ti_InvalidText : PySem.W.typeIn K (.ref I_InvalidText) = some (.type "function"))
  (kc_InvalidText : PySem.W.keepIn K (.ref C_InvalidText) = true)
  (ex_InvalidText : PySem.W.subIn K (.ref C_InvalidText) (.type "BaseException") = some true)
  (tc_InvalidText : PySem.W.typeIn K (.ref C_InvalidText) = some (.type "type"))
  (hd_InvalidText : PySem.W.hasDictIn K C_InvalidText = true)
  (te_InvalidText : PySem.W.exmOne K (.ref C_InvalidText) (.ref C_InvalidText) = some true)
  (cn_InvalidText : PySem.W.specialIn K (.builtin "object.__class__") "__get__" = some (some (.builtin "getset_descriptor.__get__")))
  (ct_InvalidText : PySem.W.takesIn K (.builtin "object.__class__") = some true)
  (cm_InvalidText : PySem.W.mroIn K C_InvalidText (.type "object") = some true)
  (li_InvalidText : K.lookup I_InvalidText = some ⟨oc_InvalidText, od_InvalidText, .func (PySem.W.fnOf "__init__" "InvalidText.__init__" (defArgs (inClass (top 3) 0)) (defBody (inClass (top 3) 0)) (defScope (inClass (top 3) 0)) .none .none dc_InvalidText pm_InvalidText an_InvalidText cd_InvalidText cv_InvalidText), sl_InvalidText⟩)
  (ci_InvalidText : PySem.W.codeIn K cd_InvalidText "InvalidText.__init__" = true)
  (a_HeadError : PySem.W.nsIn K mainGlobals "HeadError" = some (some (.ref C_HeadError)))
  (n_MAX_PLACE : PySem.W.nsIn K mainGlobals "MAX_PLACE" = some (some (.int 1000 t_MAX_PLACE)))
  (n_MAX_DIGITS : PySem.W.nsIn K mainGlobals "MAX_DIGITS" = some (some (.int 300 t_MAX_DIGITS)))
  (a_OPERATIONS : PySem.W.nsIn K mainGlobals "OPERATIONS" = some (some (.ref A_OPERATIONS)))
  (l_OPERATIONS : K.lookup A_OPERATIONS = some ⟨.type "tuple", od_OPERATIONS, .seq (List.toArray [.str "R" t0_OPERATIONS, .str "L" t1_OPERATIONS, .str "A" t2_OPERATIONS, .str "S" t3_OPERATIONS]) n_OPERATIONS, sl_OPERATIONS⟩)
  (n_DIGITS : PySem.W.nsIn K mainGlobals "DIGITS" = some (some (.str "0123456789" t_DIGITS)))
  (n_PIECE : PySem.W.nsIn K mainGlobals "PIECE" = some (some (.int 1000 t_PIECE)))
  (z_abs : PySem.W.nsIn K mainGlobals "abs" = some none)
  (z_all : PySem.W.nsIn K mainGlobals "all" = some none)
  (z_bool : PySem.W.nsIn K mainGlobals "bool" = some none)
  (z_enumerate : PySem.W.nsIn K mainGlobals "enumerate" = some none)
  (z_int : PySem.W.nsIn K mainGlobals "int" = some none)
  (z_isinstance : PySem.W.nsIn K mainGlobals "isinstance" = some none)
  (z_len : PySem.W.nsIn K mainGlobals "len" = some none)
  (z_list : PySem.W.nsIn K mainGlobals "list" = some none)
  (z_max : PySem.W.nsIn K mainGlobals "max" = some none)
  (z_range : PySem.W.nsIn K mainGlobals "range" = some none)
  (z_repr : PySem.W.nsIn K mainGlobals "repr" = some none)
  (z_str : PySem.W.nsIn K mainGlobals "str" = some none)
  (z_tuple : PySem.W.nsIn K mainGlobals "tuple" = some none)
  (x_kit_InvalidText_HeadError : PySem.W.kitOne K (.ref C_InvalidText) (.ref C_HeadError) = some true)
  (x_kit_InvalidText_InvalidNumber : PySem.W.kitOne K (.ref C_InvalidText) (.ref C_InvalidNumber) = some false)
  (x_exm_InvalidNumber_InvalidText : PySem.W.exmOne K (.ref C_InvalidNumber) (.ref C_InvalidText) = some false)
  : Tx K mg :=
  { f_is_whole := _, fd_is_whole := _, is_whole := ⟨fun_mk (st := s_is_whole) l_is_whole c_is_whole k_is_whole, PySem.W.mg_of X G a_is_whole, (fun_mk (st := s_is_whole) l_is_whole c_is_whole k_is_whole).binds (ps := ["value"]) fun _ _ _ _ _ _ us hl => match us, hl with | [_], _ => rfl⟩,
    f_is_within := _, fd_is_within := _, is_within := ⟨fun_mk (st := s_is_within) l_is_within c_is_within k_is_within, PySem.W.mg_of X G a_is_within, (fun_mk (st := s_is_within) l_is_within c_is_within k_is_within).binds (ps := ["value", "low", "high"]) fun _ _ _ _ _ _ us hl => match us, hl with | [_, _, _], _ => rfl⟩,
    f_is_place := _, fd_is_place := _, is_place := ⟨fun_mk (st := s_is_place) l_is_place c_is_place k_is_place, PySem.W.mg_of X G a_is_place, (fun_mk (st := s_is_place) l_is_place c_is_place k_is_place).binds (ps := ["value"]) fun _ _ _ _ _ _ us hl => match us, hl with | [_], _ => rfl⟩,
    f_power_of := _, fd_power_of := _, power_of := ⟨fun_mk (st := s_power_of) l_power_of c_power_of k_power_of, PySem.W.mg_of X G a_power_of, (fun_mk (st := s_power_of) l_power_of c_power_of k_power_of).binds (ps := ["base", "count"]) fun _ _ _ _ _ _ us hl => match us, hl with | [_, _], _ => rfl⟩,
    f_is_number := _, fd_is_number := _, is_number := ⟨fun_mk (st := s_is_number) l_is_number c_is_number k_is_number, PySem.W.mg_of X G a_is_number, (fun_mk (st := s_is_number) l_is_number c_is_number k_is_number).binds (ps := ["base", "value"]) fun _ _ _ _ _ _ us hl => match us, hl with | [_, _], _ => rfl⟩,
    f_has_few_digits := _, fd_has_few_digits := _, has_few_digits := ⟨fun_mk (st := s_has_few_digits) l_has_few_digits c_has_few_digits k_has_few_digits, PySem.W.mg_of X G a_has_few_digits, (fun_mk (st := s_has_few_digits) l_has_few_digits c_has_few_digits k_has_few_digits).binds (ps := ["numerator"]) fun _ _ _ _ _ _ us hl => match us, hl with | [_], _ => rfl⟩,
    f_is_sequence := _, fd_is_sequence := _, is_sequence := ⟨fun_mk (st := s_is_sequence) l_is_sequence c_is_sequence k_is_sequence, PySem.W.mg_of X G a_is_sequence, (fun_mk (st := s_is_sequence) l_is_sequence c_is_sequence k_is_sequence).binds (ps := ["value"]) fun _ _ _ _ _ _ us hl => match us, hl with | [_], _ => rfl⟩,
    f_wrong_run := _, fd_wrong_run := _, wrong_run := ⟨fun_mk (st := s_wrong_run) l_wrong_run c_wrong_run k_wrong_run, PySem.W.mg_of X G a_wrong_run, (fun_mk (st := s_wrong_run) l_wrong_run c_wrong_run k_wrong_run).binds (ps := ["values"]) fun _ _ _ _ _ _ us hl => match us, hl with | [_], _ => rfl⟩,
    f_is_run := _, fd_is_run := _, is_run := ⟨fun_mk (st := s_is_run) l_is_run c_is_run k_is_run, PySem.W.mg_of X G a_is_run, (fun_mk (st := s_is_run) l_is_run c_is_run k_is_run).binds (ps := ["value"]) fun _ _ _ _ _ _ us hl => match us, hl with | [_], _ => rfl⟩,
    f_is_pair := _, fd_is_pair := _, is_pair := ⟨fun_mk (st := s_is_pair) l_is_pair c_is_pair k_is_pair, PySem.W.mg_of X G a_is_pair, (fun_mk (st := s_is_pair) l_is_pair c_is_pair k_is_pair).binds (ps := ["base", "value"]) fun _ _ _ _ _ _ us hl => match us, hl with | [_, _], _ => rfl⟩,
    f_parse_number := _, fd_parse_number := _, parse_number := ⟨fun_mk (st := s_parse_number) l_parse_number c_parse_number k_parse_number, PySem.W.mg_of X G a_parse_number, (fun_mk (st := s_parse_number) l_parse_number c_parse_number k_parse_number).binds (ps := ["base", "text"]) fun _ _ _ _ _ _ us hl => match us, hl with | [_, _], _ => rfl⟩,
    f_parse_state := _, fd_parse_state := _, parse_state := ⟨fun_mk (st := s_parse_state) l_parse_state c_parse_state k_parse_state, PySem.W.mg_of X G a_parse_state, (fun_mk (st := s_parse_state) l_parse_state c_parse_state k_parse_state).binds (ps := ["base", "text"]) fun _ _ _ _ _ _ us hl => match us, hl with | [_, _], _ => rfl⟩,
    f_parse_effect := _, fd_parse_effect := _, parse_effect := ⟨fun_mk (st := s_parse_effect) l_parse_effect c_parse_effect k_parse_effect, PySem.W.mg_of X G a_parse_effect, (fun_mk (st := s_parse_effect) l_parse_effect c_parse_effect k_parse_effect).binds (ps := ["base", "text"]) fun _ _ _ _ _ _ us hl => match us, hl with | [_, _], _ => rfl⟩,
    f_parse_sequence := _, fd_parse_sequence := _, parse_sequence := ⟨fun_mk (st := s_parse_sequence) l_parse_sequence c_parse_sequence k_parse_sequence, PySem.W.mg_of X G a_parse_sequence, (fun_mk (st := s_parse_sequence) l_parse_sequence c_parse_sequence k_parse_sequence).binds (ps := ["text"]) fun _ _ _ _ _ _ us hl => match us, hl with | [_], _ => rfl⟩,
    f_parse_pair := _, fd_parse_pair := _, parse_pair := ⟨fun_mk (st := s_parse_pair) l_parse_pair c_parse_pair k_parse_pair, PySem.W.mg_of X G a_parse_pair, (fun_mk (st := s_parse_pair) l_parse_pair c_parse_pair k_parse_pair).binds (ps := ["base", "text", "mark"]) fun _ _ _ _ _ _ us hl => match us, hl with | [_, _, _], _ => rfl⟩,
    f_pair_in := _, fd_pair_in := _, pair_in := ⟨fun_mk (st := s_pair_in) l_pair_in c_pair_in k_pair_in, PySem.W.mg_of X G a_pair_in, (fun_mk (st := s_pair_in) l_pair_in c_pair_in k_pair_in).binds (ps := ["base", "text", "mark"]) fun _ _ _ _ _ _ us hl => match us, hl with | [_, _, _], _ => rfl⟩,
    f_number_in := _, fd_number_in := _, number_in := ⟨fun_mk (st := s_number_in) l_number_in c_number_in k_number_in, PySem.W.mg_of X G a_number_in, (fun_mk (st := s_number_in) l_number_in c_number_in k_number_in).binds (ps := ["base", "text"]) fun _ _ _ _ _ _ us hl => match us, hl with | [_, _], _ => rfl⟩,
    f_sequence_in := _, fd_sequence_in := _, sequence_in := ⟨fun_mk (st := s_sequence_in) l_sequence_in c_sequence_in k_sequence_in, PySem.W.mg_of X G a_sequence_in, (fun_mk (st := s_sequence_in) l_sequence_in c_sequence_in k_sequence_in).binds (ps := ["text"]) fun _ _ _ _ _ _ us hl => match us, hl with | [_], _ => rfl⟩,
    f_run_in := _, fd_run_in := _, run_in := ⟨fun_mk (st := s_run_in) l_run_in c_run_in k_run_in, PySem.W.mg_of X G a_run_in, (fun_mk (st := s_run_in) l_run_in c_run_in k_run_in).binds (ps := ["word"]) fun _ _ _ _ _ _ us hl => match us, hl with | [_], _ => rfl⟩,
    f_integer_in := _, fd_integer_in := _, integer_in := ⟨fun_mk (st := s_integer_in) l_integer_in c_integer_in k_integer_in, PySem.W.mg_of X G a_integer_in, (fun_mk (st := s_integer_in) l_integer_in c_integer_in k_integer_in).binds (ps := ["text"]) fun _ _ _ _ _ _ us hl => match us, hl with | [_], _ => rfl⟩,
    f_law_numbers := _, fd_law_numbers := _, law_numbers := ⟨fun_mk (st := s_law_numbers) l_law_numbers c_law_numbers k_law_numbers, PySem.W.mg_of X G a_law_numbers, (fun_mk (st := s_law_numbers) l_law_numbers c_law_numbers k_law_numbers).binds (ps := ["_law_cell", "_law_salt", "_law_sizes"]) fun _ _ _ _ _ _ us hl => match us, hl with | [_, _, _], _ => rfl⟩,
    f_law_form := _, fd_law_form := _, law_form := ⟨fun_mk (st := s_law_form) l_law_form c_law_form k_law_form, PySem.W.mg_of X G a_law_form, (fun_mk (st := s_law_form) l_law_form c_law_form k_law_form).binds (ps := ["_law_base_here", "_law_numerator", "_law_exponent"]) fun _ _ _ _ _ _ us hl => match us, hl with | [_, _, _], _ => rfl⟩,
    f_law_base := _, fd_law_base := _, law_base := ⟨fun_mk (st := s_law_base) l_law_base c_law_base k_law_base, PySem.W.mg_of X G a_law_base, (fun_mk (st := s_law_base) l_law_base c_law_base k_law_base).binds (ps := ["_law_digit"]) fun _ _ _ _ _ _ us hl => match us, hl with | [_], _ => rfl⟩,
    f_law_integer := _, fd_law_integer := _, law_integer := ⟨fun_mk (st := s_law_integer) l_law_integer c_law_integer k_law_integer, PySem.W.mg_of X G a_law_integer, (fun_mk (st := s_law_integer) l_law_integer c_law_integer k_law_integer).binds (ps := ["_law_digits"]) fun _ _ _ _ _ _ us hl => match us, hl with | [_], _ => rfl⟩,
    f_law_number := _, fd_law_number := _, law_number := ⟨fun_mk (st := s_law_number) l_law_number c_law_number k_law_number, PySem.W.mg_of X G a_law_number, (fun_mk (st := s_law_number) l_law_number c_law_number k_law_number).binds (ps := ["_law_base_here", "_law_digits"]) fun _ _ _ _ _ _ us hl => match us, hl with | [_, _], _ => rfl⟩,
    f_law_runs := _, fd_law_runs := _, law_runs := ⟨fun_mk (st := s_law_runs) l_law_runs c_law_runs k_law_runs, PySem.W.mg_of X G a_law_runs, (fun_mk (st := s_law_runs) l_law_runs c_law_runs k_law_runs).binds (ps := ["_law_digits", "_law_many"]) fun _ _ _ _ _ _ us hl => match us, hl with | [_, _], _ => rfl⟩,
    f_law_integer_of := _, fd_law_integer_of := _, law_integer_of := ⟨fun_mk (st := s_law_integer_of) l_law_integer_of c_law_integer_of k_law_integer_of, PySem.W.mg_of X G a_law_integer_of, (fun_mk (st := s_law_integer_of) l_law_integer_of c_law_integer_of k_law_integer_of).binds (ps := ["_law_text"]) fun _ _ _ _ _ _ us hl => match us, hl with | [_], _ => rfl⟩,
    f_law_number_of := _, fd_law_number_of := _, law_number_of := ⟨fun_mk (st := s_law_number_of) l_law_number_of c_law_number_of k_law_number_of, PySem.W.mg_of X G a_law_number_of, (fun_mk (st := s_law_number_of) l_law_number_of c_law_number_of k_law_number_of).binds (ps := ["_law_base_here", "_law_text"]) fun _ _ _ _ _ _ us hl => match us, hl with | [_, _], _ => rfl⟩,
    f_law_pair_of := _, fd_law_pair_of := _, law_pair_of := ⟨fun_mk (st := s_law_pair_of) l_law_pair_of c_law_pair_of k_law_pair_of, PySem.W.mg_of X G a_law_pair_of, (fun_mk (st := s_law_pair_of) l_law_pair_of c_law_pair_of k_law_pair_of).binds (ps := ["_law_base_here", "_law_text", "_law_mark"]) fun _ _ _ _ _ _ us hl => match us, hl with | [_, _, _], _ => rfl⟩,
    f_law_runs_of := _, fd_law_runs_of := _, law_runs_of := ⟨fun_mk (st := s_law_runs_of) l_law_runs_of c_law_runs_of k_law_runs_of, PySem.W.mg_of X G a_law_runs_of, (fun_mk (st := s_law_runs_of) l_law_runs_of c_law_runs_of k_law_runs_of).binds (ps := ["_law_text"]) fun _ _ _ _ _ _ us hl => match us, hl with | [_], _ => rfl⟩,
    f_law_got := _, fd_law_got := _, law_got := ⟨fun_mk (st := s_law_got) l_law_got c_law_got k_law_got, PySem.W.mg_of X G a_law_got, (fun_mk (st := s_law_got) l_law_got c_law_got k_law_got).binds (ps := ["_law_door", "_law_base_here", "_law_text"]) fun _ _ _ _ _ _ us hl => match us, hl with | [_, _, _], _ => rfl⟩,
    f_law_want := _, fd_law_want := _, law_want := ⟨fun_mk (st := s_law_want) l_law_want c_law_want k_law_want, PySem.W.mg_of X G a_law_want, (fun_mk (st := s_law_want) l_law_want c_law_want k_law_want).binds (ps := ["_law_door", "_law_base_here", "_law_text"]) fun _ _ _ _ _ _ us hl => match us, hl with | [_, _, _], _ => rfl⟩,
    f_law_altered := _, fd_law_altered := _, law_altered := ⟨fun_mk (st := s_law_altered) l_law_altered c_law_altered k_law_altered, PySem.W.mg_of X G a_law_altered, (fun_mk (st := s_law_altered) l_law_altered c_law_altered k_law_altered).binds (ps := ["_law_digits", "_law_text"]) fun _ _ _ _ _ _ us hl => match us, hl with | [_, _], _ => rfl⟩,
    f_law := _, fd_law := _, law := ⟨fun_mk (st := s_law) l_law c_law k_law, PySem.W.mg_of X G a_law, (fun_mk (st := s_law) l_law c_law k_law).binds (ps := ["_law_script"]) fun _ _ _ _ _ _ us hl => match us, hl with | [_], _ => rfl⟩,
    C_InvalidNumber := _, fI_InvalidNumber := _, InvalidNumber := { gC := PySem.W.mg_of X G a_InvalidNumber, cls := ⟨_, _, _, _, _, _, _, _, _, _, _, _, _, _, _, x_InvalidNumber, xt_InvalidNumber⟩, FB := ⟨_, PySem.F.excBase_Exception⟩, SF := PySem.F.store_Exception, over := ov_InvalidNumber, sa := sa_InvalidNumber, ga := ga_InvalidNumber, gg := gg_InvalidNumber, noN := nn_InvalidNumber, iC := ii_InvalidNumber, tC := ti_InvalidNumber, kC := kc_InvalidNumber, exC := ex_InvalidNumber, tyC := tc_InvalidNumber, hdC := hd_InvalidNumber, te := te_InvalidNumber, cc := cc_InvalidNumber, cn := cn_InvalidNumber, ct := ct_InvalidNumber, cm := cm_InvalidNumber, fn := ⟨_, _, _, _, _, _, _, _, (inClass (top 2) 0), _, li_InvalidNumber, ci_InvalidNumber, ⟨⟨_, _, _, _, rfl⟩, rfl, rfl, rfl, rfl, rfl, by decide +kernel, by decide +kernel, fun _ _ _ _ _ _ _ => rfl, fun _ _ _ => rfl, fun _ _ _ => rfl, fun _ _ _ _ _ _ _ => rfl⟩⟩ },
    C_InvalidText := _, fI_InvalidText := _, InvalidText := { gC := PySem.W.mg_of X G a_InvalidText, cls := ⟨_, _, _, _, _, _, _, _, _, _, _, _, _, _, _, x_InvalidText, xt_InvalidText⟩, FB := ⟨_, PySem.F.excBase_Exception⟩, SF := PySem.F.store_Exception, over := ov_InvalidText, sa := sa_InvalidText, ga := ga_InvalidText, gg := gg_InvalidText, noN := nn_InvalidText, iC := ii_InvalidText, tC := ti_InvalidText, kC := kc_InvalidText, exC := ex_InvalidText, tyC := tc_InvalidText, hdC := hd_InvalidText, te := te_InvalidText, cc := cc_InvalidText, cn := cn_InvalidText, ct := ct_InvalidText, cm := cm_InvalidText, fn := ⟨_, _, _, _, _, _, _, _, (inClass (top 3) 0), _, li_InvalidText, ci_InvalidText, ⟨⟨_, _, _, _, rfl⟩, rfl, rfl, rfl, rfl, rfl, by decide +kernel, by decide +kernel, fun _ _ _ _ _ _ _ => rfl, fun _ _ _ => rfl, fun _ _ _ => rfl, fun _ _ _ _ _ _ _ => rfl⟩⟩ },
    C_HeadError := _, h_HeadError := PySem.W.mg_of X G a_HeadError,
    t_MAX_PLACE := _, c_MAX_PLACE := PySem.W.mg_of X G n_MAX_PLACE,
    t_MAX_DIGITS := _, c_MAX_DIGITS := PySem.W.mg_of X G n_MAX_DIGITS,
    A_OPERATIONS := _, c_OPERATIONS := PySem.W.mg_of X G a_OPERATIONS, k_OPERATIONS := ⟨_, _, _, _, l_OPERATIONS, by simp, (.cons ⟨_, rfl⟩ (.cons ⟨_, rfl⟩ (.cons ⟨_, rfl⟩ (.cons ⟨_, rfl⟩ .nil))))⟩,
    t_DIGITS := _, c_DIGITS := PySem.W.mg_of X G n_DIGITS,
    t_PIECE := _, c_PIECE := PySem.W.mg_of X G n_PIECE,
    b_abs := PySem.W.mg_none_of X G z_abs,
    b_all := PySem.W.mg_none_of X G z_all,
    b_bool := PySem.W.mg_none_of X G z_bool,
    b_enumerate := PySem.W.mg_none_of X G z_enumerate,
    b_int := PySem.W.mg_none_of X G z_int,
    b_isinstance := PySem.W.mg_none_of X G z_isinstance,
    b_len := PySem.W.mg_none_of X G z_len,
    b_list := PySem.W.mg_none_of X G z_list,
    b_max := PySem.W.mg_none_of X G z_max,
    b_range := PySem.W.mg_none_of X G z_range,
    b_repr := PySem.W.mg_none_of X G z_repr,
    b_str := PySem.W.mg_none_of X G z_str,
    b_tuple := PySem.W.mg_none_of X G z_tuple,
    x_kit_InvalidText_HeadError := x_kit_InvalidText_HeadError,
    x_kit_InvalidText_InvalidNumber := x_kit_InvalidText_InvalidNumber,
    x_exm_InvalidNumber_InvalidText := x_exm_InvalidNumber_InvalidText }
end K49
namespace K49
open PySem L2 GL DL PM
theorem ok_is_whole {P : Program} {w : World} {K : PySem.W.Frag} {mg : Str → Option Value} {base : Heap} (T : Tx K mg) (nd : base.NoDigits) : FnG P w K mg base (L2.CX P w) 2 T.f_is_whole T.fd_is_whole ["value"] (spD K T.et 1 M_is_whole) := by
  exact fn_data (k := 1) T.is_whole.F sc_is_whole fun cdv A outer s H E quiet hr => by
    have hu64 := hr.units
    exact (ds_one (ds_ret (d_and (d_isi (T := .int) (by rfl) T.b_isinstance (pe_bltn (by rfl) T.b_int (by decide +kernel) rfl) (DE.o (d_var (pv 0)))) (d_one (d_not (d_isi (T := .bool) (by rfl) T.b_isinstance (pe_bltn (by rfl) T.b_bool (by decide +kernel) rfl) (DE.o (d_var (pv 0)))))))))
theorem ok_is_within {P : Program} {w : World} {K : PySem.W.Frag} {mg : Str → Option Value} {base : Heap} (T : Tx K mg) (nd : base.NoDigits) : FnG P w K mg base (L2.CX P w) 3 T.f_is_within T.fd_is_within ["value", "low", "high"] (spD K T.et 3 M_is_within) := by
  have G_is_whole := ok_is_whole (P := P) (w := w) (base := base) T nd
  exact fn_data (k := 2) T.is_within.F sc_is_within fun cdv A outer s H E quiet hr => by
    have hu64 := hr.units
    exact (ds_one (ds_ret (d_and (d_call (fun _ p => pe_callW G_is_whole quiet (hr.mono (by decide)) rfl T.is_whole.g T.is_whole.F.kp T.is_whole.b (takes_of rfl rfl rfl rfl) p) (dan_cons (d_var (pv 0)) dan_nil)) (d_one (d_chain (DE.o (d_var (pv 1))) (DE.o (d_var (pv 0))) (DE.o (d_var (pv 2))) le_bl (fun _ _ _ x y z => pe_chain o_le o_le x y z))))))
theorem ok_is_place {P : Program} {w : World} {K : PySem.W.Frag} {mg : Str → Option Value} {base : Heap} (T : Tx K mg) (nd : base.NoDigits) : FnG P w K mg base (L2.CX P w) 4 T.f_is_place T.fd_is_place ["value"] (spD K T.et 1 M_is_place) := by
  have G_is_within := ok_is_within (P := P) (w := w) (base := base) T nd
  exact fn_data (k := 3) T.is_place.F sc_is_place fun cdv A outer s H E quiet hr => by
    have hu64 := hr.units
    exact (ds_one (ds_ret (d_call (fun _ p => pe_callW G_is_within quiet (hr.mono (by decide)) rfl T.is_within.g T.is_within.F.kp T.is_within.b (takes_of rfl rfl rfl rfl) p) (dan_cons (d_var (pv 0)) (dan_cons (d_un u_neg (DE.o (d_int (pe_glob (v := .int 1000) rfl T.c_MAX_PLACE ⟨_, rfl⟩)))) (dan_cons (d_int (pe_glob (v := .int 1000) rfl T.c_MAX_PLACE ⟨_, rfl⟩)) dan_nil))))))
theorem ok_power_of {P : Program} {w : World} {K : PySem.W.Frag} {mg : Str → Option Value} {base : Heap} (T : Tx K mg) (nd : base.NoDigits) : FnG P w K mg base (L2.CX P w) 2 T.f_power_of T.fd_power_of ["base", "count"] (spD K T.et 2 M_power_of) := by
  exact fn_data (k := 1) T.power_of.F sc_power_of fun cdv A outer s H E quiet hr => by
    have hu64 := hr.units
    exact (ds_cons (ds_set (i := 2) (fun _ p => ps_set (i := 2) sc_power_of.nd rfl (Or.inl rfl) p) (d_int pe_int))
        (ds_cons (ds_for (vs := [3]) (passes_of rfl) rfl (di_range3 rfl T.b_range (da_cons (d_op o_sub (DE.o (d_bits (fun _ p => pe_bits p) (DE.o (d_var (pv 1))))) (DE.o (d_int pe_int))) (da_cons (d_un u_neg (DE.o (d_int pe_int))) (da_cons (d_un u_neg (DE.o (d_int pe_int))) da_nil)))) (pg_name (i := 3) sc_power_of.nd rfl (Or.inl rfl)) (good_name (by decide)) (ds_cons (ds_aug (i := 2) (fun _ p => ps_aug (i := 2) sc_power_of.nd rfl (Or.inl rfl) p q_mul) (d_var (pv 2)))
        (ds_one (ds_if (dt_truth (fun _ p => pt_truth p (fun _ => rfl)) (DE.o (d_op o_and (DE.o (d_op o_shr (DE.o (d_var (pv 1))) (DE.o (d_var (pv 3))))) (DE.o (d_int pe_int))))) (ds_one (ds_aug (i := 2) (fun _ p => ps_aug (i := 2) sc_power_of.nd rfl (Or.inl rfl) p q_mul) (d_var (pv 0)))) ds_nil))))
        (ds_one (ds_ret (d_var (pv 2))))))
theorem ok_has_few_digits {P : Program} {w : World} {K : PySem.W.Frag} {mg : Str → Option Value} {base : Heap} (T : Tx K mg) (nd : base.NoDigits) : FnG P w K mg base (L2.CX P w) 3 T.f_has_few_digits T.fd_has_few_digits ["numerator"] (spD K T.et 1 M_has_few_digits) := by
  have G_power_of := ok_power_of (P := P) (w := w) (base := base) T nd
  exact fn_data (k := 2) T.has_few_digits.F sc_has_few_digits fun cdv A outer s H E quiet hr => by
    have hu64 := hr.units
    exact (ds_one (ds_ret (d_cmp o_lt (DE.o (d_c1 (fun _ p => pe_callB b_abs (by rfl) T.b_abs (by decide +kernel) p) (DE.o (d_var (pv 0))))) (DE.o (d_call (fun _ p => pe_callW G_power_of quiet (hr.mono (by decide)) rfl T.power_of.g T.power_of.F.kp T.power_of.b (takes_of rfl rfl rfl rfl) p) (dan_cons (d_int pe_int) (dan_cons (d_int (pe_glob (v := .int 300) rfl T.c_MAX_DIGITS ⟨_, rfl⟩)) dan_nil)))) (nomark _))))
theorem ok_is_number {P : Program} {w : World} {K : PySem.W.Frag} {mg : Str → Option Value} {base : Heap} (T : Tx K mg) (nd : base.NoDigits) : FnG P w K mg base (L2.CX P w) 5 T.f_is_number T.fd_is_number ["base", "value"] (spD K T.et 2 M_is_number) := by
  have G_has_few_digits := ok_has_few_digits (P := P) (w := w) (base := base) T nd
  have G_is_whole := ok_is_whole (P := P) (w := w) (base := base) T nd
  have G_is_place := ok_is_place (P := P) (w := w) (base := base) T nd
  exact fn_data (k := 4) T.is_number.F sc_is_number fun cdv A outer s H E quiet hr => by
    have hu64 := hr.units
    exact (ds_cons (ds_if (dt_w (dw_or (dt_not (dt_val (d_isi (T := .tuple) (by rfl) T.b_isinstance (pe_bltn (by rfl) T.b_tuple (by decide +kernel) rfl) (DE.o (d_var (pv 1)))) (fun _ p => pt_val p))) (dw_or1 (dt_cmp (o_ne hu64) (DE.o (d_c1 (fun _ p => pe_callB b_len (by rfl) T.b_len (by decide +kernel) p) (DE.o (d_var (pv 1))))) (DE.o (d_int pe_int)) (nomark _))))) (ds_one (ds_ret (d_bl pe_bl))) ds_nil)
        (ds_cons (ds_asg (vs := [2, 3]) (fun _ p => ps_asg p (pg_tup rfl (pgs_cons (pg_name (i := 2) sc_is_number.nd rfl (Or.inl rfl)) (pgs_cons (pg_name (i := 3) sc_is_number.nd rfl (Or.inl rfl)) pgs_nil)))) (good_tup (.cons (good_name (by decide)) (.cons (good_name (by decide)) .nil)) rfl) (d_var (pv 1)))
        (ds_cons (ds_if (dt_w (dw_or (dt_not (dt_val (d_call (fun _ p => pe_callW G_is_whole quiet (hr.mono (by decide)) rfl T.is_whole.g T.is_whole.F.kp T.is_whole.b (takes_of rfl rfl rfl rfl) p) (dan_cons (d_var (pv 2)) dan_nil)) (fun _ p => pt_val p))) (dw_or1 (dt_not (dt_val (d_call (fun _ p => pe_callW G_is_place quiet (hr.mono (by decide)) rfl T.is_place.g T.is_place.F.kp T.is_place.b (takes_of rfl rfl rfl rfl) p) (dan_cons (d_var (pv 3)) dan_nil)) (fun _ p => pt_val p)))))) (ds_one (ds_ret (d_bl pe_bl))) ds_nil)
        (ds_cons (ds_if (dt_cmp (o_eq hu64) (DE.o (d_var (pv 2))) (DE.o (d_int pe_int)) (nomark _)) (ds_one (ds_ret (d_cmp (o_eq hu64) (DE.o (d_var (pv 3))) (DE.o (d_int pe_int)) (nomark _)))) ds_nil)
        (ds_one (ds_ret (d_and (d_cmp (o_ne hu64) (DE.o (d_op o_mod (DE.o (d_var (pv 2))) (DE.o (d_var (pv 0))))) (DE.o (d_int pe_int)) (nomark _)) (d_one (d_call (fun _ p => pe_callW G_has_few_digits quiet (hr.mono (by decide)) rfl T.has_few_digits.g T.has_few_digits.F.kp T.has_few_digits.b (takes_of rfl rfl rfl rfl) p) (dan_cons (d_var (pv 2)) dan_nil))))))))))
theorem ok_is_run {P : Program} {w : World} {K : PySem.W.Frag} {mg : Str → Option Value} {base : Heap} (T : Tx K mg) (nd : base.NoDigits) : FnG P w K mg base (L2.CX P w) 3 T.f_is_run T.fd_is_run ["value"] (spD K T.et 1 M_is_run) := by
  have G_is_whole := ok_is_whole (P := P) (w := w) (base := base) T nd
  exact fn_data (k := 2) T.is_run.F sc_is_run fun cdv A outer s H E quiet hr => by
    have hu64 := hr.units
    exact (ds_cons (ds_if (dt_w (dw_or (dt_not (dt_val (d_isi (T := .tuple) (by rfl) T.b_isinstance (pe_bltn (by rfl) T.b_tuple (by decide +kernel) rfl) (DE.o (d_var (pv 0)))) (fun _ p => pt_val p))) (dw_or1 (dt_cmp (o_ne hu64) (DE.o (d_c1 (fun _ p => pe_callB b_len (by rfl) T.b_len (by decide +kernel) p) (DE.o (d_var (pv 0))))) (DE.o (d_int pe_int)) (nomark _))))) (ds_one (ds_ret (d_bl pe_bl))) ds_nil)
        (ds_cons (ds_asg (vs := [1, 2]) (fun _ p => ps_asg p (pg_tup rfl (pgs_cons (pg_name (i := 1) sc_is_run.nd rfl (Or.inl rfl)) (pgs_cons (pg_name (i := 2) sc_is_run.nd rfl (Or.inl rfl)) pgs_nil)))) (good_tup (.cons (good_name (by decide)) (.cons (good_name (by decide)) .nil)) rfl) (d_var (pv 0)))
        (ds_cons (ds_if (dt_w (dw_or (dt_not (dt_val (d_call (fun _ p => pe_callW G_is_whole quiet (hr.mono (by decide)) rfl T.is_whole.g T.is_whole.F.kp T.is_whole.b (takes_of rfl rfl rfl rfl) p) (dan_cons (d_var (pv 2)) dan_nil)) (fun _ p => pt_val p))) (dw_or1 (dt_cmp o_lt (DE.o (d_var (pv 2))) (DE.o (d_int pe_int)) (nomark _))))) (ds_one (ds_ret (d_bl pe_bl))) ds_nil)
        (ds_one (ds_ret (d_and (d_isi (T := .str) (by rfl) T.b_isinstance (pe_bltn (by rfl) T.b_str (by decide +kernel) rfl) (DE.o (d_var (pv 1)))) (d_one (d_cmp o_in (DE.o (d_var (pv 1))) (DE.o (d_con (pe_glob (v := .ref T.A_OPERATIONS) rfl T.c_OPERATIONS rfl) (rep_kon T.k_OPERATIONS))) rfl))))))))
theorem ok_wrong_run {P : Program} {w : World} {K : PySem.W.Frag} {mg : Str → Option Value} {base : Heap} (T : Tx K mg) (nd : base.NoDigits) : FnG P w K mg base (L2.CX P w) 4 T.f_wrong_run T.fd_wrong_run ["values"] (spD K T.et 1 M_wrong_run) := by
  have G_is_run := ok_is_run (P := P) (w := w) (base := base) T nd
  exact fn_data (k := 3) T.wrong_run.F sc_wrong_run fun cdv A outer s H E quiet hr => by
    have hu64 := hr.units
    exact (ds_cons (ds_set (i := 1) (fun _ p => ps_set (i := 1) sc_wrong_run.nd rfl (Or.inl rfl) p) (d_non pe_non))
        (ds_cons (ds_for (vs := [2, 3]) (passes_of rfl) rfl (di_enum (by rfl) T.b_enumerate (d_var (pv 0))) (pg_tup rfl (pgs_cons (pg_name (i := 2) sc_wrong_run.nd rfl (Or.inl rfl)) (pgs_cons (pg_name (i := 3) sc_wrong_run.nd rfl (Or.inl rfl)) pgs_nil))) (good_tup (.cons (good_name (by decide)) (.cons (good_name (by decide)) .nil)) rfl) (ds_cons (ds_if (dt_w (dw_or (dt_not (dt_val (d_call (fun _ p => pe_callW G_is_run quiet (hr.mono (by decide)) rfl T.is_run.g T.is_run.F.kp T.is_run.b (takes_of rfl rfl rfl rfl) p) (dan_cons (d_var (pv 3)) dan_nil)) (fun _ p => pt_val p))) (dw_or1 (dt_cmp (o_eq hu64) (DE.o (d_ix (DE.o (d_var (pv 3))) (DE.o (d_int pe_int)) (fun _ _ => rfl))) (DE.o (d_var (pv 1))) (nomark _))))) (ds_one (ds_ret (d_var (pv 2)))) ds_nil)
        (ds_one (ds_set (i := 1) (fun _ p => ps_set (i := 1) sc_wrong_run.nd rfl (Or.inl rfl) p) (d_ix (DE.o (d_var (pv 3))) (DE.o (d_int pe_int)) (fun _ _ => rfl))))))
        (ds_one (ds_ret (d_non pe_non)))))
theorem ok_is_sequence {P : Program} {w : World} {K : PySem.W.Frag} {mg : Str → Option Value} {base : Heap} (T : Tx K mg) (nd : base.NoDigits) : FnG P w K mg base (L2.CX P w) 5 T.f_is_sequence T.fd_is_sequence ["value"] (spD K T.et 1 M_is_sequence) := by
  have G_wrong_run := ok_wrong_run (P := P) (w := w) (base := base) T nd
  exact fn_data (k := 4) T.is_sequence.F sc_is_sequence fun cdv A outer s H E quiet hr => by
    have hu64 := hr.units
    exact (ds_one (ds_ret (d_and (d_isi (T := .list) (by rfl) T.b_isinstance (pe_bltn (by rfl) T.b_list (by decide +kernel) rfl) (DE.o (d_var (pv 0)))) (d_one (d_cmp o_isN (DE.o (d_call (fun _ p => pe_callW G_wrong_run quiet (hr.mono (by decide)) rfl T.wrong_run.g T.wrong_run.F.kp T.wrong_run.b (takes_of rfl rfl rfl rfl) p) (dan_cons (d_var (pv 0)) dan_nil))) (DE.o (d_non pe_non)) (nomark _))))))
theorem ok_is_pair {P : Program} {w : World} {K : PySem.W.Frag} {mg : Str → Option Value} {base : Heap} (T : Tx K mg) (nd : base.NoDigits) : FnG P w K mg base (L2.CX P w) 6 T.f_is_pair T.fd_is_pair ["base", "value"] (spD K T.et 2 M_is_pair) := by
  have G_is_number := ok_is_number (P := P) (w := w) (base := base) T nd
  have G_is_place := ok_is_place (P := P) (w := w) (base := base) T nd
  exact fn_data (k := 5) T.is_pair.F sc_is_pair fun cdv A outer s H E quiet hr => by
    have hu64 := hr.units
    exact (ds_cons (ds_if (dt_w (dw_or (dt_not (dt_val (d_isi (T := .tuple) (by rfl) T.b_isinstance (pe_bltn (by rfl) T.b_tuple (by decide +kernel) rfl) (DE.o (d_var (pv 1)))) (fun _ p => pt_val p))) (dw_or1 (dt_cmp (o_ne hu64) (DE.o (d_c1 (fun _ p => pe_callB b_len (by rfl) T.b_len (by decide +kernel) p) (DE.o (d_var (pv 1))))) (DE.o (d_int pe_int)) (nomark _))))) (ds_one (ds_ret (d_bl pe_bl))) ds_nil)
        (ds_cons (ds_asg (vs := [2, 3]) (fun _ p => ps_asg p (pg_tup rfl (pgs_cons (pg_name (i := 2) sc_is_pair.nd rfl (Or.inl rfl)) (pgs_cons (pg_name (i := 3) sc_is_pair.nd rfl (Or.inl rfl)) pgs_nil)))) (good_tup (.cons (good_name (by decide)) (.cons (good_name (by decide)) .nil)) rfl) (d_var (pv 1)))
        (ds_one (ds_ret (d_and (d_call (fun _ p => pe_callW G_is_number quiet (hr.mono (by decide)) rfl T.is_number.g T.is_number.F.kp T.is_number.b (takes_of rfl rfl rfl rfl) p) (dan_cons (d_var (pv 0)) (dan_cons (d_var (pv 2)) dan_nil))) (d_one (d_call (fun _ p => pe_callW G_is_place quiet (hr.mono (by decide)) rfl T.is_place.g T.is_place.F.kp T.is_place.b (takes_of rfl rfl rfl rfl) p) (dan_cons (d_var (pv 3)) dan_nil))))))))
theorem ok_integer_in {P : Program} {w : World} {K : PySem.W.Frag} {mg : Str → Option Value} {base : Heap} (T : Tx K mg) (nd : base.NoDigits) : FnG P w K mg base (L2.CX P w) 3 T.f_integer_in T.fd_integer_in ["text"] (spD K T.et 1 M_integer_in) := by
  have G_power_of := ok_power_of (P := P) (w := w) (base := base) T nd
  exact fn_data (k := 2) T.integer_in.F sc_integer_in fun cdv A outer s H E quiet hr => by
    have hu64 := hr.units
    exact (ds_cons (ds_set (i := 1) (fun _ p => ps_set (i := 1) sc_integer_in.nd rfl (Or.inl rfl) p) (d_if (dt_val (d_m1 (fun _ _ p q => pe_m1 PySem.F.slot_str_startswith PySem.F.type_str_startswith mt_startswith p q) r_sw (d_var (pv 0)) (d_str pe_str)) (fun _ p => pt_val p)) (d_sl (DE.o (d_var (pv 0))) (dp_some (DE.o (d_int pe_int))) dp_none) (d_var (pv 0))))
        (ds_cons (ds_if (dt_w (dw_or (dt_not (dt_truth (fun _ p => pt_truth p (fun _ => rfl)) (DE.o (d_var (pv 1))))) (dw_or1 (dt_not (dt_val (d_c1 (fun _ p => pe_callB (b_all rfl) (by rfl) T.b_all (by decide +kernel) p) (DE.o (DF.all (d_comp (vs := [5]) (fun _ p => pe_lc (own := [("digit", 5)]) rfl sc_integer_in.nd p (blkOk_by (own := [("digit", 5)]) (N := ["text", "digits", "value", "at", "piece", "digit"]) (sc := defScope s_integer_in) (by decide +kernel)) (fun _ _ _ _ _ => (pg_name (i := 5) sc_integer_in.nd rfl (Or.inl rfl))) (fun _ _ _ _ _ => DTs.ex dts_nil) (fun _ _ _ _ _ => DE.can (d_cmp o_in (DE.o (d_var (pv 5))) (DE.o (d_str (pe_glob (v := .str "0123456789") rfl T.c_DIGITS ⟨_, rfl⟩))) rfl))) (di_str (d_var (pv 1))) (good_name (by decide)))))) (fun _ p => pt_val p)))))) (ds_one (ds_ret (d_non pe_non))) ds_nil)
        (ds_cons (ds_if (dt_w (dw_and (dt_cmp (o_eq hu64) (DE.o (d_ix (DE.o (d_var (pv 1))) (DE.o (d_int pe_int)) (fun _ _ => rfl))) (DE.o (d_str pe_str)) (nomark _)) (dw_and1 (dt_cmp (o_ne hu64) (DE.o (d_var (pv 0))) (DE.o (d_str pe_str)) (nomark _))))) (ds_one (ds_ret (d_non pe_non))) ds_nil)
        (ds_cons (ds_set (i := 2) (fun _ p => ps_set (i := 2) sc_integer_in.nd rfl (Or.inl rfl) p) (d_int pe_int))
        (ds_cons (ds_for (vs := [3]) (passes_of rfl) rfl (di_rangeS rfl T.b_range (da_cons (d_int pe_int) (da_cons (d_c1 (fun _ p => pe_callB b_len (by rfl) T.b_len (by decide +kernel) p) (DE.o (d_var (pv 1)))) (da_cons (d_int (pe_glob (v := .int 1000) rfl T.c_PIECE ⟨_, rfl⟩)) da_nil)))) (pg_name (i := 3) sc_integer_in.nd rfl (Or.inl rfl)) (good_name (by decide)) (ds_cons (ds_set (i := 4) (fun _ p => ps_set (i := 4) sc_integer_in.nd rfl (Or.inl rfl) p) (d_sl (DE.o (d_var (pv 1))) (dp_some (DE.o (d_var (pv 3)))) (dp_some (DE.o (d_op o_add (DE.o (d_var (pv 3))) (DE.o (d_int (pe_glob (v := .int 1000) rfl T.c_PIECE ⟨_, rfl⟩))))))))
        (ds_one (ds_set (i := 2) (fun _ p => ps_set (i := 2) sc_integer_in.nd rfl (Or.inl rfl) p) (d_op o_add (DE.o (d_op o_mul (DE.o (d_var (pv 2))) (DE.o (d_call (fun _ p => pe_callW G_power_of quiet (hr.mono (by decide)) rfl T.power_of.g T.power_of.F.kp T.power_of.b (takes_of rfl rfl rfl rfl) p) (dan_cons (d_int pe_int) (dan_cons (d_c1 (fun _ p => pe_callB b_len (by rfl) T.b_len (by decide +kernel) p) (DE.o (d_var (pv 4)))) dan_nil)))))) (DE.o (d_c1 (fun _ p => pe_callTy b_intS (by rfl) T.b_int (by decide +kernel) p) (DE.o (d_var (pv 4))))))))))
        (ds_one (ds_ret (d_if (dt_val (d_m1 (fun _ _ p q => pe_m1 PySem.F.slot_str_startswith PySem.F.type_str_startswith mt_startswith p q) r_sw (d_var (pv 0)) (d_str pe_str)) (fun _ p => pt_val p)) (d_un u_neg (DE.o (d_var (pv 2)))) (d_var (pv 2))))))))))
theorem ok_number_in {P : Program} {w : World} {K : PySem.W.Frag} {mg : Str → Option Value} {base : Heap} (T : Tx K mg) (nd : base.NoDigits) : FnG P w K mg base (L2.CX P w) 6 T.f_number_in T.fd_number_in ["base", "text"] (spD K T.et 2 M_number_in) := by
  have G_integer_in := ok_integer_in (P := P) (w := w) (base := base) T nd
  have G_is_number := ok_is_number (P := P) (w := w) (base := base) T nd
  exact fn_data (k := 5) T.number_in.F sc_number_in fun cdv A outer s H E quiet hr => by
    have hu64 := hr.units
    exact (ds_cons (ds_asg (vs := [2, 3, 4]) (fun _ p => ps_asg p (pg_tup rfl (pgs_cons (pg_name (i := 2) sc_number_in.nd rfl (Or.inl rfl)) (pgs_cons (pg_name (i := 3) sc_number_in.nd rfl (Or.inl rfl)) (pgs_cons (pg_name (i := 4) sc_number_in.nd rfl (Or.inl rfl)) pgs_nil))))) (good_tup (.cons (good_name (by decide)) (.cons (good_name (by decide)) (.cons (good_name (by decide)) .nil))) rfl) (d_m1 (fun _ _ p q => pe_partition p q) r_part (d_var (pv 1)) (d_str pe_str)))
        (ds_cons (ds_set (i := 5) (fun _ p => ps_set (i := 5) sc_number_in.nd rfl (Or.inl rfl) p) (d_if (dt_truth (fun _ p => pt_truth p (fun _ => rfl)) (DE.o (d_var (pv 3)))) (d_call (fun _ p => pe_callW G_integer_in quiet (hr.mono (by decide)) rfl T.integer_in.g T.integer_in.F.kp T.integer_in.b (takes_of rfl rfl rfl rfl) p) (dan_cons (d_var (pv 4)) dan_nil)) (d_int pe_int)))
        (ds_cons (ds_if (dt_w (dw_and (dt_truth (fun _ p => pt_truth p (fun _ => rfl)) (DE.o (d_var (pv 3)))) (dw_and1 (dt_cmp (o_eq hu64) (DE.o (d_var (pv 5))) (DE.o (d_int pe_int)) (nomark _))))) (ds_one (ds_ret (d_non pe_non))) ds_nil)
        (ds_cons (ds_set (i := 6) (fun _ p => ps_set (i := 6) sc_number_in.nd rfl (Or.inl rfl) p) (d_tup (da_cons (d_call (fun _ p => pe_callW G_integer_in quiet (hr.mono (by decide)) rfl T.integer_in.g T.integer_in.F.kp T.integer_in.b (takes_of rfl rfl rfl rfl) p) (dan_cons (d_var (pv 2)) dan_nil)) (da_cons (d_var (pv 5)) da_nil))))
        (ds_one (ds_ret (d_if (dt_val (d_call (fun _ p => pe_callW G_is_number quiet (hr.mono (by decide)) rfl T.is_number.g T.is_number.F.kp T.is_number.b (takes_of rfl rfl rfl rfl) p) (dan_cons (d_var (pv 0)) (dan_cons (d_var (pv 6)) dan_nil))) (fun _ p => pt_val p)) (d_var (pv 6)) (d_non pe_non))))))))
theorem ok_parse_number {P : Program} {w : World} {K : PySem.W.Frag} {mg : Str → Option Value} {base : Heap} (T : Tx K mg) (nd : base.NoDigits) : FnG P w K mg base (L2.CX P w) 7 T.f_parse_number T.fd_parse_number ["base", "text"] (spD K T.et 2 M_parse_number) := by
  have G_number_in := ok_number_in (P := P) (w := w) (base := base) T nd
  exact fn_data (k := 6) T.parse_number.F sc_parse_number fun cdv A outer s H E quiet hr => by
    have hu64 := hr.units
    exact (ds_cons (ds_set (i := 2) (fun _ p => ps_set (i := 2) sc_parse_number.nd rfl (Or.inl rfl) p) (d_if (dt_val (d_isi (T := .str) (by rfl) T.b_isinstance (pe_bltn (by rfl) T.b_str (by decide +kernel) rfl) (DE.o (d_var (pv 1)))) (fun _ p => pt_val p)) (d_call (fun _ p => pe_callW G_number_in quiet (hr.mono (by decide)) rfl T.number_in.g T.number_in.F.kp T.number_in.b (takes_of rfl rfl rfl rfl) p) (dan_cons (d_var (pv 0)) (dan_cons (d_var (pv 1)) dan_nil))) (d_non pe_non)))
        (ds_cons (ds_if (dt_cmp o_isN (DE.o (d_var (pv 2))) (DE.o (d_non pe_non)) (nomark _)) (ds_one (ds_raise (x := "InvalidText") T.et_InvalidText (fun _ p => ps_raiseErr rfl T.InvalidText (hr.mono (Nat.zero_le _)) (takes_of rfl rfl rfl rfl) p) (d_var (pv 1)))) ds_nil)
        (ds_one (ds_ret (d_var (pv 2))))))
theorem ok_pair_in {P : Program} {w : World} {K : PySem.W.Frag} {mg : Str → Option Value} {base : Heap} (T : Tx K mg) (nd : base.NoDigits) : FnG P w K mg base (L2.CX P w) 7 T.f_pair_in T.fd_pair_in ["base", "text", "mark"] (spD K T.et 3 M_pair_in) := by
  have G_number_in := ok_number_in (P := P) (w := w) (base := base) T nd
  have G_integer_in := ok_integer_in (P := P) (w := w) (base := base) T nd
  have G_is_pair := ok_is_pair (P := P) (w := w) (base := base) T nd
  exact fn_data (k := 6) T.pair_in.F sc_pair_in fun cdv A outer s H E quiet hr => by
    have hu64 := hr.units
    exact (ds_cons (ds_asg (vs := [3, 4, 5]) (fun _ p => ps_asg p (pg_tup rfl (pgs_cons (pg_name (i := 3) sc_pair_in.nd rfl (Or.inl rfl)) (pgs_cons (pg_name (i := 4) sc_pair_in.nd rfl (Or.inl rfl)) (pgs_cons (pg_name (i := 5) sc_pair_in.nd rfl (Or.inl rfl)) pgs_nil))))) (good_tup (.cons (good_name (by decide)) (.cons (good_name (by decide)) (.cons (good_name (by decide)) .nil))) rfl) (d_m1 (fun _ _ p q => pe_partition p q) r_part (d_var (pv 1)) (d_var (pv 2))))
        (ds_cons (ds_set (i := 6) (fun _ p => ps_set (i := 6) sc_pair_in.nd rfl (Or.inl rfl) p) (d_tup (da_cons (d_call (fun _ p => pe_callW G_number_in quiet (hr.mono (by decide)) rfl T.number_in.g T.number_in.F.kp T.number_in.b (takes_of rfl rfl rfl rfl) p) (dan_cons (d_var (pv 0)) (dan_cons (d_var (pv 3)) dan_nil))) (da_cons (d_call (fun _ p => pe_callW G_integer_in quiet (hr.mono (by decide)) rfl T.integer_in.g T.integer_in.F.kp T.integer_in.b (takes_of rfl rfl rfl rfl) p) (dan_cons (d_var (pv 5)) dan_nil)) da_nil))))
        (ds_one (ds_ret (d_if (dt_val (d_call (fun _ p => pe_callW G_is_pair quiet (hr.mono (by decide)) rfl T.is_pair.g T.is_pair.F.kp T.is_pair.b (takes_of rfl rfl rfl rfl) p) (dan_cons (d_var (pv 0)) (dan_cons (d_var (pv 6)) dan_nil))) (fun _ p => pt_val p)) (d_var (pv 6)) (d_non pe_non))))))
theorem ok_parse_pair {P : Program} {w : World} {K : PySem.W.Frag} {mg : Str → Option Value} {base : Heap} (T : Tx K mg) (nd : base.NoDigits) : FnG P w K mg base (L2.CX P w) 8 T.f_parse_pair T.fd_parse_pair ["base", "text", "mark"] (spD K T.et 3 M_parse_pair) := by
  have G_pair_in := ok_pair_in (P := P) (w := w) (base := base) T nd
  exact fn_data (k := 7) T.parse_pair.F sc_parse_pair fun cdv A outer s H E quiet hr => by
    have hu64 := hr.units
    exact (ds_cons (ds_set (i := 3) (fun _ p => ps_set (i := 3) sc_parse_pair.nd rfl (Or.inl rfl) p) (d_if (dt_val (d_isi (T := .str) (by rfl) T.b_isinstance (pe_bltn (by rfl) T.b_str (by decide +kernel) rfl) (DE.o (d_var (pv 1)))) (fun _ p => pt_val p)) (d_call (fun _ p => pe_callW G_pair_in quiet (hr.mono (by decide)) rfl T.pair_in.g T.pair_in.F.kp T.pair_in.b (takes_of rfl rfl rfl rfl) p) (dan_cons (d_var (pv 0)) (dan_cons (d_var (pv 1)) (dan_cons (d_var (pv 2)) dan_nil)))) (d_non pe_non)))
        (ds_cons (ds_if (dt_cmp o_isN (DE.o (d_var (pv 3))) (DE.o (d_non pe_non)) (nomark _)) (ds_one (ds_raise (x := "InvalidText") T.et_InvalidText (fun _ p => ps_raiseErr rfl T.InvalidText (hr.mono (Nat.zero_le _)) (takes_of rfl rfl rfl rfl) p) (d_var (pv 1)))) ds_nil)
        (ds_one (ds_ret (d_var (pv 3))))))
theorem ok_parse_state {P : Program} {w : World} {K : PySem.W.Frag} {mg : Str → Option Value} {base : Heap} (T : Tx K mg) (nd : base.NoDigits) : FnG P w K mg base (L2.CX P w) 9 T.f_parse_state T.fd_parse_state ["base", "text"] (spD K T.et 2 M_parse_state) := by
  have G_parse_pair := ok_parse_pair (P := P) (w := w) (base := base) T nd
  exact fn_data (k := 8) T.parse_state.F sc_parse_state fun cdv A outer s H E quiet hr => by
    have hu64 := hr.units
    exact (ds_one (ds_ret (d_call (fun _ p => pe_callW G_parse_pair quiet (hr.mono (by decide)) rfl T.parse_pair.g T.parse_pair.F.kp T.parse_pair.b (takes_of rfl rfl rfl rfl) p) (dan_cons (d_var (pv 0)) (dan_cons (d_var (pv 1)) (dan_cons (d_str pe_str) dan_nil))))))
theorem ok_parse_effect {P : Program} {w : World} {K : PySem.W.Frag} {mg : Str → Option Value} {base : Heap} (T : Tx K mg) (nd : base.NoDigits) : FnG P w K mg base (L2.CX P w) 9 T.f_parse_effect T.fd_parse_effect ["base", "text"] (spD K T.et 2 M_parse_effect) := by
  have G_parse_pair := ok_parse_pair (P := P) (w := w) (base := base) T nd
  exact fn_data (k := 8) T.parse_effect.F sc_parse_effect fun cdv A outer s H E quiet hr => by
    have hu64 := hr.units
    exact (ds_one (ds_ret (d_call (fun _ p => pe_callW G_parse_pair quiet (hr.mono (by decide)) rfl T.parse_pair.g T.parse_pair.F.kp T.parse_pair.b (takes_of rfl rfl rfl rfl) p) (dan_cons (d_var (pv 0)) (dan_cons (d_var (pv 1)) (dan_cons (d_str pe_str) dan_nil))))))
theorem ok_run_in {P : Program} {w : World} {K : PySem.W.Frag} {mg : Str → Option Value} {base : Heap} (T : Tx K mg) (nd : base.NoDigits) : FnG P w K mg base (L2.CX P w) 4 T.f_run_in T.fd_run_in ["word"] (spD K T.et 1 M_run_in) := by
  have G_integer_in := ok_integer_in (P := P) (w := w) (base := base) T nd
  exact fn_data (k := 3) T.run_in.F sc_run_in fun cdv A outer s H E quiet hr => by
    have hu64 := hr.units
    exact (ds_cons (ds_if (dt_cmp (o_eq hu64) (DE.o (d_c1 (fun _ p => pe_callB b_len (by rfl) T.b_len (by decide +kernel) p) (DE.o (d_var (pv 0))))) (DE.o (d_int pe_int)) (nomark _)) (ds_one (ds_ret (d_tup (da_cons (d_var (pv 0)) (da_cons (d_int pe_int) da_nil))))) ds_nil)
        (ds_cons (ds_set (i := 1) (fun _ p => ps_set (i := 1) sc_run_in.nd rfl (Or.inl rfl) p) (d_call (fun _ p => pe_callW G_integer_in quiet (hr.mono (by decide)) rfl T.integer_in.g T.integer_in.F.kp T.integer_in.b (takes_of rfl rfl rfl rfl) p) (dan_cons (d_sl (DE.o (d_var (pv 0))) (dp_some (DE.o (d_int pe_int))) dp_none) dan_nil)))
        (ds_one (ds_ret (d_if (dt_cmp (o_eq hu64) (DE.o (d_var (pv 1))) (DE.o (d_int pe_int)) (nomark _)) (d_non pe_non) (d_tup (da_cons (d_sl (DE.o (d_var (pv 0))) dp_none (dp_some (DE.o (d_int pe_int)))) (da_cons (d_var (pv 1)) da_nil))))))))
theorem ok_sequence_in {P : Program} {w : World} {K : PySem.W.Frag} {mg : Str → Option Value} {base : Heap} (T : Tx K mg) (nd : base.NoDigits) : FnG P w K mg base (L2.CX P w) 6 T.f_sequence_in T.fd_sequence_in ["text"] (spD K T.et 1 M_sequence_in_v2) := by
  have G_run_in := ok_run_in (P := P) (w := w) (base := base) T nd
  have G_is_sequence := ok_is_sequence (P := P) (w := w) (base := base) T nd
  exact fn_data (k := 5) T.sequence_in.F sc_sequence_in fun cdv A outer s H E quiet hr => by
    have hu64 := hr.units
    exact (ds_cons (ds_if (dt_cmp (o_eq hu64) (DE.o (d_var (pv 0))) (DE.o (d_str pe_str)) (nomark _)) (ds_one (ds_retF (d_lst da_nil))) ds_nil)
        (ds_cons (ds_setLc (i := 1) (vs := [2]) (fun _ p => ps_setLc (i := 1) (own := [("word", 2)]) rfl sc_sequence_in.nd rfl rfl (sw_true rfl rfl rfl (by decide +kernel)) p (blkOk_by (own := [("word", 2)]) (N := ["text", "sequence", "word"]) (sc := defScope s_sequence_in) (by decide +kernel)) (fun _ _ _ _ _ => (pg_name (i := 2) sc_sequence_in.nd rfl (Or.inl rfl))) (fun _ _ _ _ _ => DTs.ex dts_nil) (fun _ _ _ _ _ => DE.can (d_call (fun _ p => pe_callW G_run_in quiet (hr.mono (by decide)) rfl T.run_in.g T.run_in.F.kp T.run_in.b takesF p) (dan_cons (d_var (pv 2)) dan_nil)))) (di_list (d_m1 (fun _ _ p q => pe_split p q) r_split (d_var (pv 0)) (d_str pe_str))) (good_name (by decide)))
        (ds_one (ds_ret (d_if (dt_val (d_call (fun _ p => pe_callW G_is_sequence quiet (hr.mono (by decide)) rfl T.is_sequence.g T.is_sequence.F.kp T.is_sequence.b (takes_of rfl rfl rfl rfl) p) (dan_cons (d_var (pv 1)) dan_nil)) (fun _ p => pt_val p)) (d_var (pv 1)) (d_non pe_non))))))
theorem ok_parse_sequence {P : Program} {w : World} {K : PySem.W.Frag} {mg : Str → Option Value} {base : Heap} (T : Tx K mg) (nd : base.NoDigits) : FnG P w K mg base (L2.CX P w) 7 T.f_parse_sequence T.fd_parse_sequence ["text"] (spD K T.et 1 M_parse_sequence_v2) := by
  have G_sequence_in := ok_sequence_in (P := P) (w := w) (base := base) T nd
  exact fn_data (k := 6) T.parse_sequence.F sc_parse_sequence fun cdv A outer s H E quiet hr => by
    have hu64 := hr.units
    exact (ds_cons (ds_set (i := 1) (fun _ p => ps_set (i := 1) sc_parse_sequence.nd rfl (Or.inl rfl) p) (d_if (dt_val (d_isi (T := .str) (by rfl) T.b_isinstance (pe_bltn (by rfl) T.b_str (by decide +kernel) rfl) (DE.o (d_var (pv 0)))) (fun _ p => pt_val p)) (d_call (fun _ p => pe_callW G_sequence_in quiet (hr.mono (by decide)) rfl T.sequence_in.g T.sequence_in.F.kp T.sequence_in.b (takes_of rfl rfl rfl rfl) p) (dan_cons (d_var (pv 0)) dan_nil)) (d_non pe_non)))
        (ds_cons (ds_if (dt_cmp o_isN (DE.o (d_var (pv 1))) (DE.o (d_non pe_non)) (nomark _)) (ds_one (ds_raise (x := "InvalidText") T.et_InvalidText (fun _ p => ps_raiseErr rfl T.InvalidText (hr.mono (Nat.zero_le _)) (takes_of rfl rfl rfl rfl) p) (d_var (pv 0)))) ds_nil)
        (ds_one (ds_ret (d_var (pv 1))))))
theorem ok_law_numbers {P : Program} {w : World} {K : PySem.W.Frag} {mg : Str → Option Value} {base : Heap} (T : Tx K mg) (nd : base.NoDigits) : FnG P w K mg base (L2.CX P w) 2 T.f_law_numbers T.fd_law_numbers ["_law_cell", "_law_salt", "_law_sizes"] (spD K T.et 3 M_law_numbers) := by
  exact fn_data (k := 1) T.law_numbers.F sc_law_numbers fun cdv A outer s H E quiet hr => by
    have hu64 := hr.units
    exact (ds_cons (ds_set (i := 3) (fun _ p => ps_set (i := 3) sc_law_numbers.nd rfl (Or.inl rfl) p) (d_c2 (fun _ p => pe_callB (b_max rfl) (by rfl) T.b_max (by decide +kernel) p) (DE.o (d_var (pv 0))) (DE.o (d_op o_sub (DE.o (d_un u_neg (DE.o (d_int pe_int)))) (DE.o (d_var (pv 0)))))))
        (ds_cons (ds_set (i := 4) (fun _ p => ps_set (i := 4) sc_law_numbers.nd rfl (Or.inl rfl) p) (d_var (pv 3)))
        (ds_cons (ds_setF (i := 5) (fun _ p => ps_set (i := 5) sc_law_numbers.nd rfl (Or.inl rfl) p) (d_lst da_nil))
        (ds_cons (ds_for (vs := [6]) (passes_of rfl) rfl (di_range1 rfl T.b_range (da_cons (d_c1 (fun _ p => pe_callB b_len (by rfl) T.b_len (by decide +kernel) p) (DE.o (d_var (pv 2)))) da_nil)) (pg_name (i := 6) sc_law_numbers.nd rfl (Or.inl rfl)) (good_name (by decide)) (ds_one (ds_if (dt_w (dw_and (dt_cmp o_ge (DE.o (d_var (pv 3))) (DE.o (d_op o_pow (DE.o (d_int pe_int)) (DE.o (d_int pe_int)))) (nomark _)) (dw_and1 (dt_cmp o_gt (DE.o (d_var (pv 4))) (DE.o (d_int pe_int)) (nomark _))))) (ds_cons (ds_app (i := 5) (fun _ p => ps_expr (pe_bm PySem.F.plainAttrs_list PySem.F.slot_list_append PySem.F.type_list_append mt_append (pv 5) (pa_cons p pa_nil))) (d_op o_mod (DE.o (d_var (pv 4))) (DE.o (d_ix (DE.o (d_var (pv 2))) (DE.o (d_var (pv 6))) (fun _ _ => rfl)))))
        (ds_one (ds_set (i := 4) (fun _ p => ps_set (i := 4) sc_law_numbers.nd rfl (Or.inl rfl) p) (d_op o_div (DE.o (d_var (pv 4))) (DE.o (d_ix (DE.o (d_var (pv 2))) (DE.o (d_var (pv 6))) (fun _ _ => rfl))))))) (ds_cons (ds_set (i := 7) (fun _ p => ps_set (i := 7) sc_law_numbers.nd rfl (Or.inl rfl) p) (d_op o_mod (DE.o (d_op o_pow (DE.o (d_op o_add (DE.o (d_op o_add (DE.o (d_op o_mod (DE.o (d_var (pv 3))) (DE.o (d_int pe_int)))) (DE.o (d_op o_mul (DE.o (d_int pe_int)) (DE.o (d_var (pv 1))))))) (DE.o (d_int pe_int)))) (DE.o (d_int pe_int)))) (DE.o (d_int pe_int))))
        (ds_cons (ds_set (i := 7) (fun _ p => ps_set (i := 7) sc_law_numbers.nd rfl (Or.inl rfl) p) (d_op o_mod (DE.o (d_op o_mul (DE.o (d_op o_add (DE.o (d_var (pv 7))) (DE.o (d_op o_mul (DE.o (d_int pe_int)) (DE.o (d_op o_add (DE.o (d_var (pv 6))) (DE.o (d_int pe_int)))))))) (DE.o (d_op o_add (DE.o (d_var (pv 6))) (DE.o (d_int pe_int)))))) (DE.o (d_int pe_int))))
        (ds_cons (ds_set (i := 7) (fun _ p => ps_set (i := 7) sc_law_numbers.nd rfl (Or.inl rfl) p) (d_op o_mod (DE.o (d_op o_mul (DE.o (d_op o_mod (DE.o (d_op o_pow (DE.o (d_var (pv 7))) (DE.o (d_int pe_int)))) (DE.o (d_int pe_int)))) (DE.o (d_int pe_int)))) (DE.o (d_int pe_int))))
        (ds_one (ds_app (i := 5) (fun _ p => ps_expr (pe_bm PySem.F.plainAttrs_list PySem.F.slot_list_append PySem.F.type_list_append mt_append (pv 5) (pa_cons p pa_nil))) (d_op o_mod (DE.o (d_op o_div (DE.o (d_var (pv 7))) (DE.o (d_int pe_int)))) (DE.o (d_ix (DE.o (d_var (pv 2))) (DE.o (d_var (pv 6))) (fun _ _ => rfl))))))))))))
        (ds_one (ds_retO (pv 5)))))))
theorem ok_law_form {P : Program} {w : World} {K : PySem.W.Frag} {mg : Str → Option Value} {base : Heap} (T : Tx K mg) (nd : base.NoDigits) : FnG P w K mg base (L2.CX P w) 2 T.f_law_form T.fd_law_form ["_law_base_here", "_law_numerator", "_law_exponent"] (spD K T.et 3 M_law_form) := by
  exact fn_data (k := 1) T.law_form.F sc_law_form fun cdv A outer s H E quiet hr => by
    have hu64 := hr.units
    exact (ds_cons (ds_while 1000000 (passes_of rfl) (dt_w (dw_and (dt_cmp (o_ne hu64) (DE.o (d_var (pv 1))) (DE.o (d_int pe_int)) (nomark _)) (dw_and1 (dt_cmp (o_eq hu64) (DE.o (d_op o_mod (DE.o (d_var (pv 1))) (DE.o (d_var (pv 0))))) (DE.o (d_int pe_int)) (nomark _))))) (ds_one (ds_par (i := 1) (j := 2) (fun _ p => ps_par (i := 1) (j := 2) rfl sc_law_form.nd rfl rfl (by decide) rfl rfl p (by rfl)) (da_cons (d_op o_div (DE.o (d_var (pv 1))) (DE.o (d_var (pv 0)))) (da_cons (d_op o_add (DE.o (d_var (pv 2))) (DE.o (d_int pe_int))) da_nil)))))
        (ds_one (ds_ret (d_if (dt_cmp (o_ne hu64) (DE.o (d_var (pv 1))) (DE.o (d_int pe_int)) (nomark _)) (d_tup (da_cons (d_var (pv 1)) (da_cons (d_var (pv 2)) da_nil))) (d_tup (da_cons (d_int pe_int) (da_cons (d_int pe_int) da_nil)))))))
theorem ok_law_base {P : Program} {w : World} {K : PySem.W.Frag} {mg : Str → Option Value} {base : Heap} (T : Tx K mg) (nd : base.NoDigits) : FnG P w K mg base (L2.CX P w) 2 T.f_law_base T.fd_law_base ["_law_digit"] (spD K T.et 1 M_law_base) := by
  exact fn_data (k := 1) T.law_base.F sc_law_base fun cdv A outer s H E quiet hr => by
    have hu64 := hr.units
    exact (ds_one (ds_ret (d_ix (DE.o (DF.all (d_lst (da_cons (d_int pe_int) (da_cons (d_int pe_int) (da_cons (d_int pe_int) (da_cons (d_int pe_int) (da_cons (d_int pe_int) (da_cons (d_int pe_int) (da_cons (d_int pe_int) da_nil)))))))))) (DE.o (d_op o_mod (DE.o (d_var (pv 0))) (DE.o (d_int pe_int)))) (fun _ _ => rfl))))
theorem ok_law_integer {P : Program} {w : World} {K : PySem.W.Frag} {mg : Str → Option Value} {base : Heap} (T : Tx K mg) (nd : base.NoDigits) : FnG P w K mg base (L2.CX P w) 2 T.f_law_integer T.fd_law_integer ["_law_digits"] (spD K T.et 1 M_law_integer_v2) := by
  exact fn_data (k := 1) T.law_integer.F sc_law_integer fun cdv A outer s H E quiet hr => by
    have hu64 := hr.units
    exact (ds_cons (ds_set (i := 1) (fun _ p => ps_set (i := 1) sc_law_integer.nd rfl (Or.inl rfl) p) (d_ix (DE.o (DF.all (d_lst (da_cons (d_int pe_int) (da_cons (d_int pe_int) (da_cons (d_int pe_int) (da_cons (d_op o_mul (DE.o (d_int pe_int)) (DE.o (d_int pe_int))) (da_cons (d_op o_pow (DE.o (d_int pe_int)) (DE.o (d_int pe_int))) (da_cons (d_op o_pow (DE.o (d_int pe_int)) (DE.o (d_int pe_int))) da_nil))))))))) (DE.o (d_op o_mod (DE.o (d_ix (DE.o (d_var (pv 0))) (DE.o (d_int pe_int)) (fun _ _ => rfl))) (DE.o (d_int pe_int)))) (fun _ _ => rfl)))
        (ds_cons (ds_set (i := 2) (fun _ p => ps_set (i := 2) sc_law_integer.nd rfl (Or.inl rfl) p) (d_op o_add (DE.o (d_op o_mul (DE.o (d_op o_add (DE.o (d_op o_mul (DE.o (d_ix (DE.o (d_var (pv 0))) (DE.o (d_int pe_int)) (fun _ _ => rfl))) (DE.o (d_int pe_int)))) (DE.o (d_ix (DE.o (d_var (pv 0))) (DE.o (d_int pe_int)) (fun _ _ => rfl))))) (DE.o (d_int pe_int)))) (DE.o (d_ix (DE.o (d_var (pv 0))) (DE.o (d_int pe_int)) (fun _ _ => rfl)))))
        (ds_cons (ds_set (i := 3) (fun _ p => ps_set (i := 3) sc_law_integer.nd rfl (Or.inl rfl) p) (d_op o_add (DE.o (d_op o_div (DE.o (d_op o_mul (DE.o (d_var (pv 2))) (DE.o (d_op o_add (DE.o (d_op o_div (DE.o (d_var (pv 1))) (DE.o (d_int pe_int)))) (DE.o (d_int pe_int)))))) (DE.o (d_op o_add (DE.o (d_int pe_int)) (DE.o (d_ix (DE.o (d_var (pv 0))) (DE.o (d_int pe_int)) (fun _ _ => rfl))))))) (DE.o (d_op o_mod (DE.o (d_var (pv 2))) (DE.o (d_int pe_int))))))
        (ds_one (ds_ret (d_if (dt_cmp o_gt (DE.o (d_op o_mod (DE.o (d_ix (DE.o (d_var (pv 0))) (DE.o (d_int pe_int)) (fun _ _ => rfl))) (DE.o (d_int pe_int)))) (DE.o (d_int pe_int)) (nomark _)) (d_if (dt_cmp (o_eq hu64) (DE.o (d_op o_mod (DE.o (d_ix (DE.o (d_var (pv 0))) (DE.o (d_int pe_int)) (fun _ _ => rfl))) (DE.o (d_int pe_int)))) (DE.o (d_int pe_int)) (nomark _)) (d_op o_sub (DE.o (d_int pe_int)) (DE.o (d_var (pv 3)))) (d_var (pv 3))) (d_int pe_int)))))))
theorem ok_law_number {P : Program} {w : World} {K : PySem.W.Frag} {mg : Str → Option Value} {base : Heap} (T : Tx K mg) (nd : base.NoDigits) : FnG P w K mg base (L2.CX P w) 3 T.f_law_number T.fd_law_number ["_law_base_here", "_law_digits"] (spD K T.et 2 M_law_number_v2) := by
  have G_law_form := ok_law_form (P := P) (w := w) (base := base) T nd
  have G_law_integer := ok_law_integer (P := P) (w := w) (base := base) T nd
  exact fn_data (k := 2) T.law_number.F sc_law_number fun cdv A outer s H E quiet hr => by
    have hu64 := hr.units
    exact (ds_one (ds_ret (d_call (fun _ p => pe_callW G_law_form quiet (hr.mono (by decide)) rfl T.law_form.g T.law_form.F.kp T.law_form.b (takes_of rfl rfl rfl rfl) p) (dan_cons (d_var (pv 0)) (dan_cons (d_call (fun _ p => pe_callW G_law_integer quiet (hr.mono (by decide)) rfl T.law_integer.g T.law_integer.F.kp T.law_integer.b (takes_of rfl rfl rfl rfl) p) (dan_cons (d_var (pv 1)) dan_nil)) (dan_cons (d_op o_sub (DE.o (d_op o_mod (DE.o (d_ix (DE.o (d_var (pv 1))) (DE.o (d_int pe_int)) (fun _ _ => rfl))) (DE.o (d_int pe_int)))) (DE.o (d_int pe_int))) dan_nil))))))
theorem ok_law_runs {P : Program} {w : World} {K : PySem.W.Frag} {mg : Str → Option Value} {base : Heap} (T : Tx K mg) (nd : base.NoDigits) : FnG P w K mg base (L2.CX P w) 2 T.f_law_runs T.fd_law_runs ["_law_digits", "_law_many"] (spD K T.et 2 M_law_runs) := by
  exact fn_data (k := 1) T.law_runs.F sc_law_runs fun cdv A outer s H E quiet hr => by
    have hu64 := hr.units
    exact (ds_cons (ds_setF (i := 2) (fun _ p => ps_set (i := 2) sc_law_runs.nd rfl (Or.inl rfl) p) (d_lst da_nil))
        (ds_cons (ds_for (vs := [3]) (passes_of rfl) rfl (di_range1 rfl T.b_range (da_cons (d_var (pv 1)) da_nil)) (pg_name (i := 3) sc_law_runs.nd rfl (Or.inl rfl)) (good_name (by decide)) (ds_cons (ds_set (i := 4) (fun _ p => ps_set (i := 4) sc_law_runs.nd rfl (Or.inl rfl) p) (d_ix (DE.o (d_str pe_str)) (DE.o (d_op o_mod (DE.o (d_ix (DE.o (d_var (pv 0))) (DE.o (d_op o_mul (DE.o (d_int pe_int)) (DE.o (d_var (pv 3))))) (fun _ _ => rfl))) (DE.o (d_int pe_int)))) (fun _ _ => rfl)))
        (ds_cons (ds_set (i := 5) (fun _ p => ps_set (i := 5) sc_law_runs.nd rfl (Or.inl rfl) p) (d_ix (DE.o (DF.all (d_lst (da_cons (d_int pe_int) (da_cons (d_int pe_int) (da_cons (d_int pe_int) (da_cons (d_int pe_int) (da_cons (d_op o_add (DE.o (d_int pe_int)) (DE.o (d_op o_mod (DE.o (d_ix (DE.o (d_var (pv 0))) (DE.o (d_op o_add (DE.o (d_op o_mul (DE.o (d_int pe_int)) (DE.o (d_var (pv 3))))) (DE.o (d_int pe_int)))) (fun _ _ => rfl))) (DE.o (d_int pe_int))))) (da_cons (d_op o_add (DE.o (d_op o_mul (DE.o (d_int pe_int)) (DE.o (d_ix (DE.o (d_var (pv 0))) (DE.o (d_op o_add (DE.o (d_op o_mul (DE.o (d_int pe_int)) (DE.o (d_var (pv 3))))) (DE.o (d_int pe_int)))) (fun _ _ => rfl))))) (DE.o (d_int pe_int))) da_nil))))))))) (DE.o (d_op o_mod (DE.o (d_ix (DE.o (d_var (pv 0))) (DE.o (d_op o_add (DE.o (d_op o_mul (DE.o (d_int pe_int)) (DE.o (d_var (pv 3))))) (DE.o (d_int pe_int)))) (fun _ _ => rfl))) (DE.o (d_int pe_int)))) (fun _ _ => rfl)))
        (ds_cons (ds_if (dt_cmp o_in (DE.o (d_var (pv 4))) (DE.o (d_str pe_str)) rfl) (ds_one (ds_set (i := 5) (fun _ p => ps_set (i := 5) sc_law_runs.nd rfl (Or.inl rfl) p) (d_op o_add (DE.o (d_int pe_int)) (DE.o (d_op o_mod (DE.o (d_var (pv 5))) (DE.o (d_int pe_int))))))) ds_nil)
        (ds_one (ds_if (dt_w (dw_or (dt_cmp (o_eq hu64) (d_varO (pv 2)) (DE.o (DF.all (d_lst da_nil))) (nomark _)) (dw_or1 (dt_cmp (o_ne hu64) (DE.o (d_ix (DE.o (d_ix (d_varO (pv 2)) (DE.o (d_un u_neg (DE.o (d_int pe_int)))) (fun _ _ => rfl))) (DE.o (d_int pe_int)) (fun _ _ => rfl))) (DE.o (d_var (pv 4))) (nomark _))))) (ds_one (ds_app (i := 2) (fun _ p => ps_expr (pe_bm PySem.F.plainAttrs_list PySem.F.slot_list_append PySem.F.type_list_append mt_append (pv 2) (pa_cons p pa_nil))) (d_tup (da_cons (d_var (pv 4)) (da_cons (d_var (pv 5)) da_nil))))) ds_nil))))))
        (ds_one (ds_retO (pv 2)))))
theorem ok_law_integer_of {P : Program} {w : World} {K : PySem.W.Frag} {mg : Str → Option Value} {base : Heap} (T : Tx K mg) (nd : base.NoDigits) : FnG P w K mg base (L2.CX P w) 2 T.f_law_integer_of T.fd_law_integer_of ["_law_text"] (spD K T.et 1 M_law_integer_of) := by
  exact fn_data (k := 1) T.law_integer_of.F sc_law_integer_of fun cdv A outer s H E quiet hr => by
    have hu64 := hr.units
    exact (ds_cons (ds_set (i := 1) (fun _ p => ps_set (i := 1) sc_law_integer_of.nd rfl (Or.inl rfl) p) (d_if (dt_cmp (o_eq hu64) (DE.o (d_sl (DE.o (d_var (pv 0))) dp_none (dp_some (DE.o (d_int pe_int))))) (DE.o (d_str pe_str)) (nomark _)) (d_sl (DE.o (d_var (pv 0))) (dp_some (DE.o (d_int pe_int))) dp_none) (d_var (pv 0))))
        (ds_cons (ds_if (dt_w (dw_or (dt_cmp (o_eq hu64) (DE.o (d_var (pv 1))) (DE.o (d_str pe_str)) (nomark _)) (dw_or1 (dt_cmp (o_ne hu64) (DE.o (DF.all (d_comp (vs := [2]) (fun _ p => pe_lc (own := [("_law_sign", 2)]) rfl sc_law_integer_of.nd p (blkOk_by (own := [("_law_sign", 2)]) (N := ["_law_text", "_law_digits", "_law_sign"]) (sc := defScope s_law_integer_of) (by decide +kernel)) (fun _ _ _ _ _ => (pg_name (i := 2) sc_law_integer_of.nd rfl (Or.inl rfl))) (fun _ _ _ _ _ => DTs.ex (dts_one (dt_cmp o_notIn (DE.o (d_var (pv 2))) (DE.o (d_str pe_str)) rfl))) (fun _ _ _ _ _ => DE.can (d_var (pv 2)))) (di_str (d_var (pv 1))) (good_name (by decide))))) (DE.o (DF.all (d_lst da_nil))) (nomark _))))) (ds_one (ds_ret (d_non pe_non))) ds_nil)
        (ds_cons (ds_if (dt_w (dw_and (dt_cmp (o_eq hu64) (DE.o (d_ix (DE.o (d_var (pv 1))) (DE.o (d_int pe_int)) (fun _ _ => rfl))) (DE.o (d_str pe_str)) (nomark _)) (dw_and1 (dt_cmp (o_ne hu64) (DE.o (d_var (pv 0))) (DE.o (d_str pe_str)) (nomark _))))) (ds_one (ds_ret (d_non pe_non))) ds_nil)
        (ds_one (ds_ret (d_c1 (fun _ p => pe_callTy b_intS (by rfl) T.b_int (by decide +kernel) p) (DE.o (d_var (pv 0)))))))))
theorem ok_law_number_of {P : Program} {w : World} {K : PySem.W.Frag} {mg : Str → Option Value} {base : Heap} (T : Tx K mg) (nd : base.NoDigits) : FnG P w K mg base (L2.CX P w) 3 T.f_law_number_of T.fd_law_number_of ["_law_base_here", "_law_text"] (spD K T.et 2 M_law_number_of) := by
  have G_law_integer_of := ok_law_integer_of (P := P) (w := w) (base := base) T nd
  exact fn_data (k := 2) T.law_number_of.F sc_law_number_of fun cdv A outer s H E quiet hr => by
    have hu64 := hr.units
    exact (ds_cons (ds_set (i := 2) (fun _ p => ps_set (i := 2) sc_law_number_of.nd rfl (Or.inl rfl) p) (d_m1 (fun _ _ p q => pe_split p q) r_split (d_var (pv 1)) (d_str pe_str)))
        (ds_cons (ds_setLc (i := 3) (vs := [6]) (fun _ p => ps_setLc (i := 3) (own := [("_law_part", 6)]) rfl sc_law_number_of.nd rfl rfl (sw_true rfl rfl rfl (by decide +kernel)) p (blkOk_by (own := [("_law_part", 6)]) (N := ["_law_base_here", "_law_text", "_law_parts", "_law_values", "_law_number_here", "_law_is_right", "_law_part"]) (sc := defScope s_law_number_of) (by decide +kernel)) (fun _ _ _ _ _ => (pg_name (i := 6) sc_law_number_of.nd rfl (Or.inl rfl))) (fun _ _ _ _ _ => DTs.ex dts_nil) (fun _ _ _ _ _ => DE.can (d_call (fun _ p => pe_callW G_law_integer_of quiet (hr.mono (by decide)) rfl T.law_integer_of.g T.law_integer_of.F.kp T.law_integer_of.b takesF p) (dan_cons (d_var (pv 6)) dan_nil)))) (di_list (d_var (pv 2))) (good_name (by decide)))
        (ds_cons (ds_if (dt_w (dw_or (dt_cmp o_gt (DE.o (d_c1 (fun _ p => pe_callB b_len (by rfl) T.b_len (by decide +kernel) p) (DE.o (d_var (pv 2))))) (DE.o (d_int pe_int)) (nomark _)) (dw_or (dt_cmp o_in (DE.o (d_non pe_non)) (DE.o (d_var (pv 3))) rfl) (dw_or1 (dt_cmp (o_eq hu64) (DE.o (d_sl (DE.o (d_var (pv 3))) (dp_some (DE.o (d_int pe_int))) dp_none)) (DE.o (DF.all (d_lst (da_cons (d_int pe_int) da_nil)))) (nomark _)))))) (ds_one (ds_ret (d_non pe_non))) ds_nil)
        (ds_cons (ds_set (i := 4) (fun _ p => ps_set (i := 4) sc_law_number_of.nd rfl (Or.inl rfl) p) (d_tup (da_cons (d_ix (DE.o (d_var (pv 3))) (DE.o (d_int pe_int)) (fun _ _ => rfl)) (da_cons (d_ix (DE.o (d_op o_add (DE.o (d_var (pv 3))) (DE.o (DF.all (d_lst (da_cons (d_int pe_int) da_nil)))))) (DE.o (d_int pe_int)) (fun _ _ => rfl)) da_nil))))
        (ds_cons (ds_if (dt_cmp (o_eq hu64) (DE.o (d_ix (DE.o (d_var (pv 4))) (DE.o (d_int pe_int)) (fun _ _ => rfl))) (DE.o (d_int pe_int)) (nomark _)) (ds_one (ds_ret (d_if (dt_cmp (o_eq hu64) (DE.o (d_ix (DE.o (d_var (pv 4))) (DE.o (d_int pe_int)) (fun _ _ => rfl))) (DE.o (d_int pe_int)) (nomark _)) (d_var (pv 4)) (d_non pe_non)))) ds_nil)
        (ds_cons (ds_set (i := 5) (fun _ p => ps_set (i := 5) sc_law_number_of.nd rfl (Or.inl rfl) p) (d_and (d_cmp (o_ne hu64) (DE.o (d_op o_mod (DE.o (d_ix (DE.o (d_var (pv 4))) (DE.o (d_int pe_int)) (fun _ _ => rfl))) (DE.o (d_var (pv 0))))) (DE.o (d_int pe_int)) (nomark _)) (d_and (d_cmp o_lt (DE.o (d_c1 (fun _ p => pe_callB b_abs (by rfl) T.b_abs (by decide +kernel) p) (DE.o (d_ix (DE.o (d_var (pv 4))) (DE.o (d_int pe_int)) (fun _ _ => rfl))))) (DE.o (d_op o_pow (DE.o (d_op o_pow (DE.o (d_int pe_int)) (DE.o (d_int pe_int)))) (DE.o (d_int pe_int)))) (nomark _)) (d_one (d_chain (DE.o (d_un u_neg (DE.o (d_int pe_int)))) (DE.o (d_ix (DE.o (d_var (pv 4))) (DE.o (d_int pe_int)) (fun _ _ => rfl))) (DE.o (d_int pe_int)) le_bl (fun _ _ _ x y z => pe_chain o_le o_le x y z))))))
        (ds_one (ds_ret (d_if (dt_truth (fun _ p => pt_truth p (fun _ => rfl)) (DE.o (d_var (pv 5)))) (d_var (pv 4)) (d_non pe_non))))))))))
theorem ok_law_pair_of {P : Program} {w : World} {K : PySem.W.Frag} {mg : Str → Option Value} {base : Heap} (T : Tx K mg) (nd : base.NoDigits) : FnG P w K mg base (L2.CX P w) 4 T.f_law_pair_of T.fd_law_pair_of ["_law_base_here", "_law_text", "_law_mark"] (spD K T.et 3 M_law_pair_of) := by
  have G_law_number_of := ok_law_number_of (P := P) (w := w) (base := base) T nd
  have G_law_integer_of := ok_law_integer_of (P := P) (w := w) (base := base) T nd
  exact fn_data (k := 3) T.law_pair_of.F sc_law_pair_of fun cdv A outer s H E quiet hr => by
    have hu64 := hr.units
    exact (ds_cons (ds_set (i := 3) (fun _ p => ps_set (i := 3) sc_law_pair_of.nd rfl (Or.inl rfl) p) (d_m1 (fun _ _ p q => pe_split p q) r_split (d_var (pv 1)) (d_var (pv 2))))
        (ds_cons (ds_if (dt_cmp (o_ne hu64) (DE.o (d_c1 (fun _ p => pe_callB b_len (by rfl) T.b_len (by decide +kernel) p) (DE.o (d_var (pv 3))))) (DE.o (d_int pe_int)) (nomark _)) (ds_one (ds_ret (d_non pe_non))) ds_nil)
        (ds_cons (ds_par (i := 4) (j := 5) (fun _ p => ps_par (i := 4) (j := 5) rfl sc_law_pair_of.nd rfl rfl (by decide) rfl rfl p (by rfl)) (da_cons (d_call (fun _ p => pe_callW G_law_number_of quiet (hr.mono (by decide)) rfl T.law_number_of.g T.law_number_of.F.kp T.law_number_of.b (takes_of rfl rfl rfl rfl) p) (dan_cons (d_var (pv 0)) (dan_cons (d_ix (DE.o (d_var (pv 3))) (DE.o (d_int pe_int)) (fun _ _ => rfl)) dan_nil))) (da_cons (d_call (fun _ p => pe_callW G_law_integer_of quiet (hr.mono (by decide)) rfl T.law_integer_of.g T.law_integer_of.F.kp T.law_integer_of.b (takes_of rfl rfl rfl rfl) p) (dan_cons (d_ix (DE.o (d_var (pv 3))) (DE.o (d_int pe_int)) (fun _ _ => rfl)) dan_nil)) da_nil)))
        (ds_one (ds_ret (d_if (dt_w (dw_and (dt_cmp o_notN (DE.o (d_var (pv 4))) (DE.o (d_non pe_non)) (nomark _)) (dw_and (dt_cmp o_notN (DE.o (d_var (pv 5))) (DE.o (d_non pe_non)) (nomark _)) (dw_and1 (dt_chain (DE.o (d_un u_neg (DE.o (d_int pe_int)))) (DE.o (d_var (pv 5))) (DE.o (d_int pe_int)) le_bl (fun _ _ _ x y z => pt_chain o_le o_le x y z)))))) (d_tup (da_cons (d_var (pv 4)) (da_cons (d_var (pv 5)) da_nil))) (d_non pe_non)))))))
theorem ok_law_runs_of {P : Program} {w : World} {K : PySem.W.Frag} {mg : Str → Option Value} {base : Heap} (T : Tx K mg) (nd : base.NoDigits) : FnG P w K mg base (L2.CX P w) 3 T.f_law_runs_of T.fd_law_runs_of ["_law_text"] (spD K T.et 1 M_law_runs_of) := by
  have G_law_integer_of := ok_law_integer_of (P := P) (w := w) (base := base) T nd
  exact fn_data (k := 2) T.law_runs_of.F sc_law_runs_of fun cdv A outer s H E quiet hr => by
    have hu64 := hr.units
    exact (ds_cons (ds_setF (i := 1) (fun _ p => ps_set (i := 1) sc_law_runs_of.nd rfl (Or.inl rfl) p) (d_lst da_nil))
        (ds_cons (ds_for (vs := [2]) (passes_of rfl) rfl (di_list (d_if (dt_cmp (o_ne hu64) (DE.o (d_var (pv 0))) (DE.o (d_str pe_str)) (nomark _)) (d_m1 (fun _ _ p q => pe_split p q) r_split (d_var (pv 0)) (d_str pe_str)) (DF.all (d_lst da_nil)))) (pg_name (i := 2) sc_law_runs_of.nd rfl (Or.inl rfl)) (good_name (by decide)) (ds_cons (ds_set (i := 3) (fun _ p => ps_set (i := 3) sc_law_runs_of.nd rfl (Or.inl rfl) p) (d_if (dt_cmp o_gt (DE.o (d_c1 (fun _ p => pe_callB b_len (by rfl) T.b_len (by decide +kernel) p) (DE.o (d_var (pv 2))))) (DE.o (d_int pe_int)) (nomark _)) (d_call (fun _ p => pe_callW G_law_integer_of quiet (hr.mono (by decide)) rfl T.law_integer_of.g T.law_integer_of.F.kp T.law_integer_of.b (takes_of rfl rfl rfl rfl) p) (dan_cons (d_sl (DE.o (d_var (pv 2))) (dp_some (DE.o (d_int pe_int))) dp_none) dan_nil)) (d_int pe_int)))
        (ds_cons (ds_if (dt_w (dw_or (dt_cmp o_notIn (DE.o (d_sl (DE.o (d_var (pv 2))) dp_none (dp_some (DE.o (d_int pe_int))))) (DE.o (DF.all (d_lst (da_cons (d_str pe_str) (da_cons (d_str pe_str) (da_cons (d_str pe_str) (da_cons (d_str pe_str) da_nil))))))) rfl) (dw_or (dt_cmp o_isN (DE.o (d_var (pv 3))) (DE.o (d_non pe_non)) (nomark _)) (dw_or (dt_cmp o_lt (DE.o (d_var (pv 3))) (DE.o (d_int pe_int)) (nomark _)) (dw_or1 (dt_w (dw_and (dt_cmp o_gt (DE.o (d_c1 (fun _ p => pe_callB b_len (by rfl) T.b_len (by decide +kernel) p) (DE.o (d_var (pv 2))))) (DE.o (d_int pe_int)) (nomark _)) (dw_and1 (dt_cmp (o_eq hu64) (DE.o (d_var (pv 3))) (DE.o (d_int pe_int)) (nomark _)))))))))) (ds_one (ds_ret (d_non pe_non))) ds_nil)
        (ds_cons (ds_if (dt_w (dw_and (dt_cmp (o_ne hu64) (d_varO (pv 1)) (DE.o (DF.all (d_lst da_nil))) (nomark _)) (dw_and1 (dt_cmp (o_eq hu64) (DE.o (d_ix (DE.o (d_ix (d_varO (pv 1)) (DE.o (d_un u_neg (DE.o (d_int pe_int)))) (fun _ _ => rfl))) (DE.o (d_int pe_int)) (fun _ _ => rfl))) (DE.o (d_ix (DE.o (d_var (pv 2))) (DE.o (d_int pe_int)) (fun _ _ => rfl))) (nomark _))))) (ds_one (ds_ret (d_non pe_non))) ds_nil)
        (ds_one (ds_app (i := 1) (fun _ p => ps_expr (pe_bm PySem.F.plainAttrs_list PySem.F.slot_list_append PySem.F.type_list_append mt_append (pv 1) (pa_cons p pa_nil))) (d_tup (da_cons (d_ix (DE.o (d_var (pv 2))) (DE.o (d_int pe_int)) (fun _ _ => rfl)) (da_cons (d_var (pv 3)) da_nil)))))))))
        (ds_one (ds_retO (pv 1)))))
theorem ok_law_got {P : Program} {w : World} {K : PySem.W.Frag} {mg : Str → Option Value} {base : Heap} (T : Tx K mg) (nd : base.NoDigits) : FnG P w K mg base (L2.CX P w) 10 T.f_law_got T.fd_law_got ["_law_door", "_law_base_here", "_law_text"] (spD K T.et 3 M_law_got_v4) := by
  have G_parse_sequence := ok_parse_sequence (P := P) (w := w) (base := base) T nd
  have G_parse_number := ok_parse_number (P := P) (w := w) (base := base) T nd
  have G_parse_state := ok_parse_state (P := P) (w := w) (base := base) T nd
  have G_parse_effect := ok_parse_effect (P := P) (w := w) (base := base) T nd
  exact fn_data (k := 9) T.law_got.F sc_law_got fun cdv A outer s H E quiet hr => by
    have hu64 := hr.units
    exact (ds_cons (ds_set (i := 3) (fun _ p => ps_set (i := 3) sc_law_got.nd rfl (Or.inl rfl) p) (d_non pe_non))
        (ds_cons (ds_try (cs := [.ref T.C_InvalidText]) rfl rfl sc_law_got.nd (takes_of rfl rfl rfl rfl) (fun _ _ _ tk po => (ds_one (ds_set (i := 3) (fun _ p => ps_set (i := 3) sc_law_got.nd rfl (Or.inl rfl) p) (d_if (dt_cmp (o_eq hu64) (DE.o (d_var (pv 0))) (DE.o (d_int pe_int)) (nomark _)) (d_call (fun _ p => pe_callW G_parse_sequence quiet (hr.mono (by decide)) rfl T.parse_sequence.g T.parse_sequence.F.kp T.parse_sequence.b tk p) (dan_cons (d_var (pv 2)) dan_nil)) (d_door3 (by exact fun _ _ p q => pe_doorG (pe_ix ix_list (pe_lst (pa_cons (pe_glob (v := .ref T.f_parse_number) rfl T.parse_number.g rfl) (pa_cons (pe_glob (v := .ref T.f_parse_state) rfl T.parse_state.g rfl) (pa_cons (pe_glob (v := .ref T.f_parse_effect) rfl T.parse_effect.g rfl) pa_nil)))) p (fun _ _ => rfl)) (by rintro f sp (⟨rfl, rfl⟩ | ⟨rfl, rfl⟩ | ⟨rfl, rfl⟩) <;> first | exact ⟨T.parse_number.F.kp, _, _, _, G_parse_number, hr.mono (by decide), T.parse_number.b⟩ | exact ⟨T.parse_state.F.kp, _, _, _, G_parse_state, hr.mono (by decide), T.parse_state.b⟩ | exact ⟨T.parse_effect.F.kp, _, _, _, G_parse_effect, hr.mono (by decide), T.parse_effect.b⟩) quiet tk q) (d_var (pv 0)) (dan_cons (d_var (pv 1)) (dan_cons (d_var (pv 2)) dan_nil))))))) (.cons T.cat_InvalidText .nil) (.cons rfl rfl ⟨rfl, by decide, .inl T.InvalidText.gC⟩ (fun a oe cls d pn hz hf => DSs.can (ds_one (ds_set (i := 3) (fun _ p => ps_set (i := 3) sc_law_got.nd rfl (Or.inl rfl) p) (DF.all (d_lst (da_cons (d_str pe_str) (da_cons (d_c1 (fun _ p => pe_callB (b_repr quiet hu64) (by rfl) T.b_repr (by decide +kernel) p) (DE.o (d_errFld (x := "InvalidText") T.et_InvalidText (fun _ p => pe_errFld T.InvalidText hz hf p) (pv 4)))) (da_cons (d_errIsi (x := "InvalidText") T.et_InvalidText (fun _ p => pe_callB (call_errIs T.InvalidText hz hf) (by rfl) T.b_isinstance (by decide +kernel) p) (pv 4) (pe_glob (v := .ref T.C_HeadError) rfl T.h_HeadError rfl) (.own _) T.x_kit_InvalidText_HeadError) (da_cons (d_errIsi (x := "InvalidText") T.et_InvalidText (fun _ p => pe_callB (call_errIs T.InvalidText hz hf) (by rfl) T.b_isinstance (by decide +kernel) p) (pv 4) (pe_glob (v := .ref T.C_InvalidNumber) rfl T.InvalidNumber.gC rfl) (.own _) T.x_kit_InvalidText_InvalidNumber) da_nil))))))))) .nil))
        (ds_one (ds_ret (d_var (pv 3))))))
theorem ok_law_want {P : Program} {w : World} {K : PySem.W.Frag} {mg : Str → Option Value} {base : Heap} (T : Tx K mg) (nd : base.NoDigits) : FnG P w K mg base (L2.CX P w) 5 T.f_law_want T.fd_law_want ["_law_door", "_law_base_here", "_law_text"] (spD K T.et 3 M_law_want_v6) := by
  have G_law_number_of := ok_law_number_of (P := P) (w := w) (base := base) T nd
  have G_law_pair_of := ok_law_pair_of (P := P) (w := w) (base := base) T nd
  have G_law_runs_of := ok_law_runs_of (P := P) (w := w) (base := base) T nd
  exact fn_data (k := 4) T.law_want.F sc_law_want fun cdv A outer s H E quiet hr => by
    have hu64 := hr.units
    exact (ds_cons (ds_setF (i := 3) (fun _ p => ps_set (i := 3) sc_law_want.nd rfl (Or.inl rfl) p) (d_lst (da_cons (d_call (fun _ p => pe_callW G_law_number_of quiet (hr.mono (by decide)) rfl T.law_number_of.g T.law_number_of.F.kp T.law_number_of.b (takes_of rfl rfl rfl rfl) p) (dan_cons (d_var (pv 1)) (dan_cons (d_var (pv 2)) dan_nil))) (da_cons (d_call (fun _ p => pe_callW G_law_pair_of quiet (hr.mono (by decide)) rfl T.law_pair_of.g T.law_pair_of.F.kp T.law_pair_of.b (takes_of rfl rfl rfl rfl) p) (dan_cons (d_var (pv 1)) (dan_cons (d_var (pv 2)) (dan_cons (d_str pe_str) dan_nil)))) (da_cons (d_call (fun _ p => pe_callW G_law_pair_of quiet (hr.mono (by decide)) rfl T.law_pair_of.g T.law_pair_of.F.kp T.law_pair_of.b (takes_of rfl rfl rfl rfl) p) (dan_cons (d_var (pv 1)) (dan_cons (d_var (pv 2)) (dan_cons (d_str pe_str) dan_nil)))) da_nil)))))
        (ds_cons (ds_app (i := 3) (fun _ p => ps_expr (pe_bm PySem.F.plainAttrs_list PySem.F.slot_list_append PySem.F.type_list_append mt_append (pv 3) (pa_cons p pa_nil))) (d_call (fun _ p => pe_callW G_law_runs_of quiet (hr.mono (by decide)) rfl T.law_runs_of.g T.law_runs_of.F.kp T.law_runs_of.b (takes_of rfl rfl rfl rfl) p) (dan_cons (d_var (pv 2)) dan_nil)))
        (ds_one (ds_ret (d_if (dt_cmp o_isN (DE.o (d_ix (d_varO (pv 3)) (DE.o (d_var (pv 0))) (fun _ _ => rfl))) (DE.o (d_non pe_non)) (nomark _)) (DF.all (d_lst (da_cons (d_str pe_str) (da_cons (d_c1 (fun _ p => pe_callB (b_repr quiet hu64) (by rfl) T.b_repr (by decide +kernel) p) (DE.o (d_var (pv 2)))) (da_cons (d_bl pe_bl) (da_cons (d_bl pe_bl) da_nil)))))) (d_ix (d_varO (pv 3)) (DE.o (d_var (pv 0))) (fun _ _ => rfl)))))))
theorem ok_law_altered {P : Program} {w : World} {K : PySem.W.Frag} {mg : Str → Option Value} {base : Heap} (T : Tx K mg) (nd : base.NoDigits) : FnG P w K mg base (L2.CX P w) 2 T.f_law_altered T.fd_law_altered ["_law_digits", "_law_text"] (spD K T.et 2 M_law_altered_v4) := by
  exact fn_data (k := 1) T.law_altered.F sc_law_altered fun cdv A outer s H E quiet hr => by
    have hu64 := hr.units
    exact (ds_cons (ds_par (i := 2) (j := 3) (fun _ p => ps_par (i := 2) (j := 3) rfl sc_law_altered.nd rfl rfl (by decide) rfl rfl p (by rfl)) (da_cons (d_op o_mod (DE.o (d_ix (DE.o (d_var (pv 0))) (DE.o (d_int pe_int)) (fun _ _ => rfl))) (DE.o (d_op o_add (DE.o (d_c1 (fun _ p => pe_callB b_len (by rfl) T.b_len (by decide +kernel) p) (DE.o (d_var (pv 1))))) (DE.o (d_int pe_int))))) (da_cons (d_ix (DE.o (d_str pe_str)) (DE.o (d_op o_mod (DE.o (d_ix (DE.o (d_var (pv 0))) (DE.o (d_int pe_int)) (fun _ _ => rfl))) (DE.o (d_int pe_int)))) (fun _ _ => rfl)) da_nil)))
        (ds_cons (ds_set (i := 4) (fun _ p => ps_set (i := 4) sc_law_altered.nd rfl (Or.inl rfl) p) (d_m1 (fun _ _ p q => pe_split p q) r_split (d_var (pv 1)) (d_str pe_str)))
        (ds_cons (ds_set (i := 5) (fun _ p => ps_set (i := 5) sc_law_altered.nd rfl (Or.inl rfl) p) (DF.all (d_lst (da_cons (d_var (pv 1)) (da_cons (d_op o_add (DE.o (d_op o_add (DE.o (d_sl (DE.o (d_var (pv 1))) dp_none (dp_some (DE.o (d_var (pv 2)))))) (DE.o (d_var (pv 3))))) (DE.o (d_sl (DE.o (d_var (pv 1))) (dp_some (DE.o (d_var (pv 2)))) dp_none))) (da_cons (d_op o_add (DE.o (d_sl (DE.o (d_var (pv 1))) dp_none (dp_some (DE.o (d_var (pv 2)))))) (DE.o (d_sl (DE.o (d_var (pv 1))) (dp_some (DE.o (d_op o_add (DE.o (d_var (pv 2))) (DE.o (d_int pe_int))))) dp_none))) (da_cons (d_op o_add (DE.o (d_op o_add (DE.o (d_sl (DE.o (d_var (pv 1))) dp_none (dp_some (DE.o (d_var (pv 2)))))) (DE.o (d_var (pv 3))))) (DE.o (d_sl (DE.o (d_var (pv 1))) (dp_some (DE.o (d_op o_add (DE.o (d_var (pv 2))) (DE.o (d_int pe_int))))) dp_none))) da_nil)))))))
        (ds_one (ds_ret (d_op o_add (DE.o (d_var (pv 5))) (DE.o (DF.all (d_lst (da_cons (d_op o_add (DE.o (d_var (pv 1))) (DE.o (d_str pe_str))) (da_cons (d_op o_add (DE.o (d_str pe_str)) (DE.o (d_var (pv 1)))) (da_cons (d_m1 (fun _ _ p q => pe_join p q) r_join (d_str pe_str) (DF.all (d_rev (d_var (pv 4))))) (da_cons (d_op o_add (DE.o (d_op o_add (DE.o (d_var (pv 1))) (DE.o (d_str pe_str)))) (DE.o (d_ix (DE.o (d_var (pv 4))) (DE.o (d_un u_neg (DE.o (d_int pe_int)))) (fun _ _ => rfl)))) (da_cons (d_op o_add (DE.o (d_var (pv 1))) (DE.o (d_str pe_str))) (da_cons (d_lower (fun _ p => pe_lower p) (d_var (pv 1))) da_nil)))))))))))))))
end K49
namespace K49
open PySem L2 GL DL PM
theorem ok_law {P : Program} {w : World} {K : PySem.W.Frag} {mg : Str → Option Value} {base : Heap} (T : Tx K mg) (nd : base.NoDigits) : FnG P w K mg base (L2.CX P w) 11 T.f_law T.fd_law ["_law_script"] (spD K T.et 1 M_law_K49) := by
  have G_law_numbers := ok_law_numbers (P := P) (w := w) (base := base) T nd
  have G_law_base := ok_law_base (P := P) (w := w) (base := base) T nd
  have G_law_number := ok_law_number (P := P) (w := w) (base := base) T nd
  have G_law_runs := ok_law_runs (P := P) (w := w) (base := base) T nd
  have G_law_altered := ok_law_altered (P := P) (w := w) (base := base) T nd
  have G_law_got := ok_law_got (P := P) (w := w) (base := base) T nd
  have G_law_want := ok_law_want (P := P) (w := w) (base := base) T nd
  exact fn_data (k := 10) T.law.F sc_law fun cdv A outer s H E quiet hr => by
    have hu64 := hr.units
    exact (ds_cons (ds_for (vs := [1, 2]) (passes_of rfl) rfl (di_enum (by rfl) T.b_enumerate (d_op o_add (DE.o (d_sl (DE.o (d_var (pv 0))) dp_none (dp_some (DE.o (d_int pe_int))))) (DE.o (d_op o_mul (DE.o (DF.all (d_lst (da_cons (d_int pe_int) da_nil)))) (DE.o (d_c1 (fun _ p => pe_callTy b_int (by rfl) T.b_int (by decide +kernel) p) (DE.o (d_cmp (o_eq hu64) (DE.o (d_var (pv 0))) (DE.o (DF.all (d_lst da_nil))) (nomark _))))))))) (pg_tup rfl (pgs_cons (pg_name (i := 1) sc_law.nd rfl (Or.inl rfl)) (pgs_cons (pg_name (i := 2) sc_law.nd rfl (Or.inl rfl)) pgs_nil))) (good_tup (.cons (good_name (by decide)) (.cons (good_name (by decide)) .nil)) rfl) (ds_cons (ds_set (i := 3) (fun _ p => ps_set (i := 3) sc_law.nd rfl (Or.inl rfl) p) (DF.all (d_callF (fun _ p => pe_callW G_law_numbers quiet (hr.mono (by decide)) rfl T.law_numbers.g T.law_numbers.F.kp T.law_numbers.b (takes_of rfl rfl rfl rfl) p) (dan_cons (d_var (pv 2)) (dan_cons (d_op o_add (DE.o (d_int pe_int)) (DE.o (d_var (pv 1)))) (dan_cons (d_op o_mul (DE.o (DF.all (d_lst (da_cons (d_int pe_int) da_nil)))) (DE.o (d_int pe_int))) dan_nil))))))
        (ds_cons (ds_set (i := 4) (fun _ p => ps_set (i := 4) sc_law.nd rfl (Or.inr rfl) p) (d_call (fun _ p => pe_callW G_law_base quiet (hr.mono (by decide)) rfl T.law_base.g T.law_base.F.kp T.law_base.b (takes_of rfl rfl rfl rfl) p) (dan_cons (d_ix (DE.o (d_var (pv 3))) (DE.o (d_int pe_int)) (fun _ _ => rfl)) dan_nil)))
        (ds_cons (ds_set (i := 5) (fun _ p => ps_set (i := 5) sc_law.nd rfl (Or.inl rfl) p) (d_call (fun _ p => pe_callW G_law_number quiet (hr.mono (by decide)) rfl T.law_number.g T.law_number.F.kp T.law_number.b (takes_of rfl rfl rfl rfl) p) (dan_cons (d_var (pv 4)) (dan_cons (d_sl (DE.o (d_var (pv 3))) (dp_some (DE.o (d_int pe_int))) dp_none) dan_nil))))
        (ds_cons (ds_set (i := 6) (fun _ p => ps_set (i := 6) sc_law.nd rfl (Or.inl rfl) p) (d_op o_add (DE.o (d_c1 (fun _ p => pe_callTy b_str (by rfl) T.b_str (by decide +kernel) p) (DE.o (d_ix (DE.o (d_var (pv 5))) (DE.o (d_int pe_int)) (fun _ _ => rfl))))) (DE.o (d_op o_mulS (DE.o (d_op o_add (DE.o (d_str pe_str)) (DE.o (d_c1 (fun _ p => pe_callTy b_str (by rfl) T.b_str (by decide +kernel) p) (DE.o (d_ix (DE.o (d_var (pv 5))) (DE.o (d_int pe_int)) (fun _ _ => rfl))))))) (DE.o (d_c1 (fun _ p => pe_callTy b_int (by rfl) T.b_int (by decide +kernel) p) (DE.o (d_cmp (o_ne hu64) (DE.o (d_ix (DE.o (d_var (pv 5))) (DE.o (d_int pe_int)) (fun _ _ => rfl))) (DE.o (d_int pe_int)) (nomark _)))))))))
        (ds_cons (ds_set (i := 7) (fun _ p => ps_set (i := 7) sc_law.nd rfl (Or.inl rfl) p) (d_c1 (fun _ p => pe_callTy b_str (by rfl) T.b_str (by decide +kernel) p) (DE.o (d_ix (DE.o (DF.all (d_lst (da_cons (d_op o_sub (DE.o (d_op o_mod (DE.o (d_ix (DE.o (d_var (pv 3))) (DE.o (d_int pe_int)) (fun _ _ => rfl))) (DE.o (d_int pe_int)))) (DE.o (d_int pe_int))) (da_cons (d_op o_add (DE.o (d_int pe_int)) (DE.o (d_op o_mod (DE.o (d_ix (DE.o (d_var (pv 3))) (DE.o (d_int pe_int)) (fun _ _ => rfl))) (DE.o (d_int pe_int))))) (da_cons (d_op o_sub (DE.o (d_un u_neg (DE.o (d_int pe_int)))) (DE.o (d_op o_mod (DE.o (d_ix (DE.o (d_var (pv 3))) (DE.o (d_int pe_int)) (fun _ _ => rfl))) (DE.o (d_int pe_int))))) da_nil)))))) (DE.o (d_op o_mod (DE.o (d_ix (DE.o (d_var (pv 3))) (DE.o (d_int pe_int)) (fun _ _ => rfl))) (DE.o (d_int pe_int)))) (fun _ _ => rfl)))))
        (ds_cons (ds_set (i := 8) (fun _ p => ps_set (i := 8) sc_law.nd rfl (Or.inl rfl) p) (DF.all (d_callF (fun _ p => pe_callW G_law_runs quiet (hr.mono (by decide)) rfl T.law_runs.g T.law_runs.F.kp T.law_runs.b (takes_of rfl rfl rfl rfl) p) (dan_cons (d_sl (DE.o (d_var (pv 3))) (dp_some (DE.o (d_int pe_int))) dp_none) (dan_cons (d_op o_add (DE.o (d_int pe_int)) (DE.o (d_op o_mod (DE.o (d_ix (DE.o (d_var (pv 3))) (DE.o (d_int pe_int)) (fun _ _ => rfl))) (DE.o (d_int pe_int))))) dan_nil)))))
        (ds_cons (ds_set (i := 9) (fun _ p => ps_set (i := 9) sc_law.nd rfl (Or.inl rfl) p) (d_m1 (fun _ _ p q => pe_join p q) r_join (d_str pe_str) (DF.all (d_comp (vs := [15, 16]) (fun _ p => pe_lc (own := [("_law_operation", 15), ("_law_count", 16)]) rfl sc_law.nd p (blkOk_by (own := [("_law_operation", 15), ("_law_count", 16)]) (N := ["_law_script", "_law_k", "_law_cell", "_law_digits", "_law_base_here", "_law_number_here", "_law_text", "_law_place", "_law_runs_here", "_law_words", "_law_some", "_law_turn", "_law_one", "_law_door", "_law_value", "_law_operation", "_law_count"]) (sc := defScope s_law) (by decide +kernel)) (fun _ _ _ _ _ => (pg_tup rfl (pgs_cons (pg_name (i := 15) sc_law.nd rfl (Or.inl rfl)) (pgs_cons (pg_name (i := 16) sc_law.nd rfl (Or.inl rfl)) pgs_nil)))) (fun _ _ _ _ _ => DTs.ex dts_nil) (fun _ _ _ _ _ => DE.can (d_op o_add (DE.o (d_var (pv 15))) (DE.o (d_op o_mulS (DE.o (d_c1 (fun _ p => pe_callTy b_str (by rfl) T.b_str (by decide +kernel) p) (DE.o (d_var (pv 16))))) (DE.o (d_c1 (fun _ p => pe_callTy b_int (by rfl) T.b_int (by decide +kernel) p) (DE.o (d_cmp (o_ne hu64) (DE.o (d_var (pv 16))) (DE.o (d_int pe_int)) (nomark _)))))))))) (di_list (d_var (pv 8))) (good_tup (.cons (good_name (by decide)) (.cons (good_name (by decide)) .nil)) rfl)))))
        (ds_cons (ds_set (i := 10) (fun _ p => ps_set (i := 10) sc_law.nd rfl (Or.inl rfl) p) (DF.all (d_lst da_nil)))
        (ds_cons (ds_for (vs := [11]) (passes_of rfl) rfl (di_range1 rfl T.b_range (da_cons (d_int pe_int) da_nil)) (pg_name (i := 11) sc_law.nd rfl (Or.inl rfl)) (good_name (by decide)) (ds_one (ds_for (vs := [12]) (passes_of rfl) rfl (di_list (DF.all (d_lst (da_cons (d_var (pv 6)) (da_cons (d_op o_add (DE.o (d_op o_add (DE.o (d_var (pv 6))) (DE.o (d_str pe_str)))) (DE.o (d_var (pv 7)))) (da_cons (d_op o_add (DE.o (d_op o_add (DE.o (d_var (pv 6))) (DE.o (d_str pe_str)))) (DE.o (d_var (pv 7)))) (da_cons (d_var (pv 9)) da_nil))))))) (pg_name (i := 12) sc_law.nd rfl (Or.inl rfl)) (good_name (by decide)) (ds_one (ds_set (i := 10) (fun _ p => ps_set (i := 10) sc_law.nd rfl (Or.inl rfl) p) (d_op o_add (DE.o (d_var (pv 10))) (DE.o (d_call (fun _ p => pe_callW G_law_altered quiet (hr.mono (by decide)) rfl T.law_altered.g T.law_altered.F.kp T.law_altered.b (takes_of rfl rfl rfl rfl) p) (dan_cons (d_sl (DE.o (d_var (pv 3))) (dp_some (DE.o (d_op o_add (DE.o (d_int pe_int)) (DE.o (d_op o_mul (DE.o (d_int pe_int)) (DE.o (d_var (pv 11)))))))) dp_none) (dan_cons (d_var (pv 12)) dan_nil))))))))))
        (ds_cons (ds_set (i := 10) (fun _ p => ps_set (i := 10) sc_law.nd rfl (Or.inl rfl) p) (d_op o_add (DE.o (d_var (pv 10))) (DE.o (DF.all (d_lst (da_cons (d_str pe_str) (da_cons (d_str pe_str) (da_cons (d_str pe_str) (da_cons (d_str pe_str) (da_cons (d_str pe_str) (da_cons (d_str pe_str) (da_cons (d_str pe_str) (da_cons (d_str pe_str) (da_cons (d_str pe_str) (da_cons (d_c1 (fun _ p => pe_callTy b_str (by rfl) T.b_str (by decide +kernel) p) (DE.o (d_var (pv 4)))) (da_cons (d_op o_add (DE.o (d_c1 (fun _ p => pe_callTy b_str (by rfl) T.b_str (by decide +kernel) p) (DE.o (d_var (pv 4))))) (DE.o (d_str pe_str))) da_nil))))))))))))))))
        (ds_cons (ds_set (i := 10) (fun _ p => ps_set (i := 10) sc_law.nd rfl (Or.inl rfl) p) (d_op o_add (DE.o (d_var (pv 10))) (DE.o (DF.all (d_lst (da_cons (d_op o_mulN (DE.o (d_str pe_str)) (DE.o (d_int pe_int))) (da_cons (d_op o_mulN (DE.o (d_str pe_str)) (DE.o (d_int pe_int))) (da_cons (d_str pe_str) (da_cons (d_str pe_str) (da_cons (d_str pe_str) (da_cons (d_str pe_str) (da_cons (d_str pe_str) (da_cons (d_str pe_str) (da_cons (d_str pe_str) (da_cons (d_str pe_str) (da_cons (d_str pe_str) (da_cons (d_str pe_str) da_nil)))))))))))))))))
        (ds_cons (ds_set (i := 10) (fun _ p => ps_set (i := 10) sc_law.nd rfl (Or.inl rfl) p) (d_op o_add (DE.o (d_var (pv 10))) (DE.o (DF.all (d_lst (da_cons (d_str pe_str) (da_cons (d_str pe_str) (da_cons (d_str pe_str) (da_cons (d_str pe_str) (da_cons (d_str pe_str) da_nil))))))))))
        (ds_cons (ds_for (vs := [12]) (passes_of rfl) rfl (di_list (d_var (pv 10))) (pg_name (i := 12) sc_law.nd rfl (Or.inl rfl)) (good_name (by decide)) (ds_one (ds_for (vs := [13]) (passes_of rfl) rfl (di_range1 rfl T.b_range (da_cons (d_int pe_int) da_nil)) (pg_name (i := 13) sc_law.nd rfl (Or.inl rfl)) (good_name (by decide)) (ds_one (ds_if (dt_cmp (o_ne hu64) (DE.o (d_c1 (fun _ p => pe_callB (b_repr quiet hu64) (by rfl) T.b_repr (by decide +kernel) p) (DE.o (d_call (fun _ p => pe_callW G_law_got quiet (hr.mono (by decide)) rfl T.law_got.g T.law_got.F.kp T.law_got.b (takes_of rfl rfl rfl rfl) p) (dan_cons (d_var (pv 13)) (dan_cons (d_var (pv 4)) (dan_cons (d_var (pv 12)) dan_nil))))))) (DE.o (d_c1 (fun _ p => pe_callB (b_repr quiet hu64) (by rfl) T.b_repr (by decide +kernel) p) (DE.o (d_call (fun _ p => pe_callW G_law_want quiet (hr.mono (by decide)) rfl T.law_want.g T.law_want.F.kp T.law_want.b (takes_of rfl rfl rfl rfl) p) (dan_cons (d_var (pv 13)) (dan_cons (d_var (pv 4)) (dan_cons (d_var (pv 12)) dan_nil))))))) (nomark _)) (ds_one (ds_ret (d_bl pe_bl))) ds_nil)))))
        (ds_one (ds_for (vs := [14]) (passes_of rfl) rfl (di_list (DF.all (d_lst (da_cons (d_non pe_non) (da_cons (d_int pe_int) (da_cons (DF.all (d_lst (da_cons (d_str pe_str) da_nil))) (da_cons (d_tup (da_cons (d_str pe_str) da_nil)) (da_cons (d_bl pe_bl) (da_cons (DFD.all (d_dict0 pe_dnewK)) (da_cons (d_var (pv 5)) da_nil)))))))))) (pg_name (i := 14) sc_law.nd rfl (Or.inr rfl)) (good_name (by decide)) (ds_one (ds_if (dt_cmp (o_ne hu64) (DE.o (DF.all (d_comp (vs := [13]) (fun _ p => pe_lc (own := [("_law_door", 13)]) rfl sc_law.nd p (blkOk_by (own := [("_law_door", 13)]) (N := ["_law_script", "_law_k", "_law_cell", "_law_digits", "_law_base_here", "_law_number_here", "_law_text", "_law_place", "_law_runs_here", "_law_words", "_law_some", "_law_turn", "_law_one", "_law_door", "_law_value", "_law_operation", "_law_count"]) (sc := defScope s_law) (by decide +kernel)) (fun _ _ _ _ _ => (pg_name (i := 13) sc_law.nd rfl (Or.inl rfl))) (fun _ _ _ _ _ => DTs.ex dts_nil) (fun _ _ _ _ _ => DE.can (d_call (fun _ p => pe_callW G_law_got quiet (hr.mono (by decide)) rfl T.law_got.g T.law_got.F.kp T.law_got.b takesF p) (dan_cons (d_var (pv 13)) (dan_cons (d_var (pv 4)) (dan_cons (d_var (pv 14)) dan_nil)))))) (di_range1 rfl T.b_range (da_cons (d_int pe_int) da_nil)) (good_name (by decide))))) (DE.o (d_op o_mul (DE.o (DF.all (d_lst (da_cons (DF.all (d_lst (da_cons (d_str pe_str) (da_cons (d_c1 (fun _ p => pe_callB (b_repr quiet hu64) (by rfl) T.b_repr (by decide +kernel) p) (DE.o (d_var (pv 14)))) (da_cons (d_bl pe_bl) (da_cons (d_bl pe_bl) da_nil)))))) da_nil)))) (DE.o (d_int pe_int)))) (nomark _)) (ds_one (ds_ret (d_bl pe_bl))) ds_nil))))))))))))))))))
        (ds_one (ds_ret (d_bl pe_bl))))
end K49
namespace PM
open PySem L2 GL DL NR
open TL (tl numL joinL)
theorem pair_lay49 (n e : Int) : (PyData.str (pyR (.tup [.int n, .int e])).shown).canLay0 = true := by
  have ht := pair_text n e
  generalize (pyR (.tup [.int n, .int e])).shown = t at ht
  rw [← SX.S_tl t]
  refine lay_S fun c hc => ?_
  rw [show t.cps.toList = TL.tl t from rfl, ht] at hc
  simp only [List.mem_cons, List.mem_append, List.cons_append, List.not_mem_nil, or_false, false_or] at hc
  rcases hc with rfl | hc | rfl | rfl | hc | rfl
  all_goals first | decide | exact intL_lt c hc
theorem nine_mul (k : Nat) (h : 2 ≤ k ∧ k ≤ 1000) : gMulN (.str "9") (.int (k : Int)) = some (.val (.str (repS k "9"))) := by
  have l1 : ("9" : Str).length = 1 := by decide +kernel
  show giv (2 ≤ (k : Int) ∧ (k : Int) ≤ 1000 ∧ ("9" : Str).length = 1) (.str (repS (k : Int).toNat "9")) = _
  rw [giv_pos ⟨by omega, by omega, l1⟩, Int.toNat_natCast]
def lits1 : List Str := ["", "-", "-0", "0e1", "00", "1e0", "1e-0", "1e1001", "1e-1000"]
def lits2 : List Str := [repS 300 "9", repS 301 "9", "1@", "@1", "1@1@1", "R1", "R0", "R-2", "R02", "R R", "RL", "A 2"]
def lits3 : List Str := ["e5", "1e5e5", "R\tA", "1\t@2", "R  A"]
theorem ok1 : ∀ x ∈ lits1, Ok9 x := by decide +kernel
theorem ok2 : ∀ x ∈ lits2, Ok9 x := by decide +kernel
theorem ok3 : ∀ x ∈ lits3, Ok9 x := by decide +kernel
theorem lit_e3 : ("e-3" : Str) = S [101, 45, 51] := TL.ext_tl (by rw [tl_S]; decide +kernel)
theorem plain_val {d : D} (h : textOk d = true) : gRepr d = some (.val (.str (txt d))) ∧ (PyData.str (txt d)).canLay0 = true := ⟨txt_repr h, (textOk_iff.mp h).2.2.2.2⟩
theorem turn49 (ns : List Int) (k : Nat) (c : Int) (r : En) (hk : k < 1000) (hr : r.length = 14) : ∃ r', r'.length = 14 ∧
    B_law_K49_6 (.sh (.scr ns) :: .sh (.int (k : Int)) :: .sh (.int c) :: r) = .nx (.sh (.scr ns) :: .sh (.int (k : Int)) :: .sh (.int c) :: r') := by
  match r, hr with
  | [x3, x4, x5, x6, x7, x8, x9, x10, x11, x12, x13, x14, x15, x16], _ =>
  obtain ⟨ds, hd, en⟩ := numbers_ok c (4900 + (k : Int)) (by omega) (by omega) 420 (by decide) (by decide) 60 (by decide)
  have mr : gMul (.lst [.int 420]) (.int 60) = some (.newL (List.replicate 60 (.int 420))) := mul_rep (.int 420) 60 (by decide)
  generalize List.replicate 60 (D.int 420) = RR at mr en
  have at_ : ∀ j : Nat, j < 60 → gIx (.lst (ds.map .int)) (.int (j : Int)) = some (.val (.int (dg ds j))) ∧ 0 ≤ dg ds j ∧ dg ds j < 420 := fun j hj => hd.at_ hj
  have g0 : gIx (.lst (ds.map .int)) (.int 0) = some (.val (.int (dg ds 0))) := (at_ 0 (by decide)).1
  have g8 : gIx (.lst (ds.map .int)) (.int 8) = some (.val (.int (dg ds 8))) := (at_ 8 (by decide)).1
  have g9 : gIx (.lst (ds.map .int)) (.int 9) = some (.val (.int (dg ds 9))) := (at_ 9 (by decide)).1
  have g10 : gIx (.lst (ds.map .int)) (.int 10) = some (.val (.int (dg ds 10))) := (at_ 10 (by decide)).1
  have g11 : gIx (.lst (ds.map .int)) (.int 11) = some (.val (.int (dg ds 11))) := (at_ 11 (by decide)).1
  have h8 := (at_ 8 (by decide)).2
  have h9 := (at_ 9 (by decide)).2
  have h11 := (at_ 11 (by decide)).2
  have sl1 : gSl (some 1) none (.lst (ds.map .int)) = some (.newL ((ds.drop 1).map .int)) := hd.from_ (k := 1) (by decide)
  have sl12 : gSl (some 12) none (.lst (ds.map .int)) = some (.newL ((ds.drop 12).map .int)) := hd.from_ (k := 12) (by decide)
  have sl30 : gSl (some (30 + 0)) none (.lst (ds.map .int)) = some (.newL ((ds.drop 30).map .int)) := hd.from_ (k := 30) (by decide)
  have sl32 : gSl (some (30 + 2)) none (.lst (ds.map .int)) = some (.newL ((ds.drop 32).map .int)) := hd.from_ (k := 32) (by decide)
  have a30 := (hd.drop 30).at_ (k := 0) (by decide)
  have a31 := (hd.drop 30).at_ (k := 1) (by decide)
  have a32 := (hd.drop 32).at_ (k := 0) (by decide)
  have a33 := (hd.drop 32).at_ (k := 1) (by decide)
  obtain ⟨b, hB, b2, b36⟩ := base_eq (at_ 0 (by decide)).2.1
  obtain ⟨v, o1, z1, m1⟩ := number2_val b2 b36 (hd.drop 1) (by decide)
  have nv : NumV b v := numV_of b2 z1 (by decide) (by decide) (by decide)
  have hx := isNum_numD b2 nv
  have sh5 := num_shown hx
  obtain ⟨n', e', hD, lo, hi, _⟩ := isNum_pair hx
  have nd : numD b v = .tup [.int (nm b v), .int (ex b v)] := rfl
  rw [nd] at hD o1 sh5
  have he : -1000 ≤ ex b v ∧ ex b v ≤ 1000 := by
    have : ex b v = e' := by injection hD with h; injection h with _ h; injection h with h _; injection h
    omega
  generalize nm b v = n at *
  generalize ex b v = e at *
  have n19 : n.natAbs < 2 ^ 1900 := Nat.lt_of_lt_of_le m1 (Nat.pow_le_pow_right (by decide) (by decide))
  have e19 : e.natAbs < 2 ^ 1900 := sm_1900 he
  have ft := text49 m1 he
  obtain ⟨pl, gp, p0, p1⟩ := pick_int (xs := [dg ds 8 % 9 - 4, 990 + dg ds 9 % 20, -990 - dg ds 9 % 20]) (P := fun z => -1100 ≤ z ∧ z ≤ 1100) (fun y hy => by
    simp only [List.mem_cons, List.not_mem_nil, or_false] at hy
    rcases hy with rfl | rfl | rfl <;> omega) (n := 3) rfl (by decide) (dg ds 10)
  have gp : gIx (.lst [.int (dg ds 8 % 9 - 4), .int (990 + dg ds 9 % 20), .int (-990 - dg ds 9 % 20)]) (.int (dg ds 10 % 3)) = some (.val (.int pl)) := gp
  have ps := str_int' (n := pl) (Nat.lt_of_le_of_lt (show pl.natAbs ≤ 1100 by omega) (by decide +kernel))
  have fp : Fin9 7 (intL pl) := small_fine (Nat.lt_of_le_of_lt (show pl.natAbs ≤ 1100 by omega) (by decide))
  obtain ⟨m, hm, hm7⟩ : ∃ m : Nat, 1 + dg ds 11 % 7 = (m : Int) ∧ m ≤ 7 := ⟨(1 + dg ds 11 % 7).toNat, by omega, by omega⟩
  obtain ⟨rs, s1, hr0⟩ := law_runs_eq (hd.drop 12) (m := m) (by omega) (by omega)
  have hrl : rs.length ≤ 7 := by have := hr0.len; omega
  have fw := words_fine hr0.cnt hrl
  have b0 : (0 : Int) < b := by omega
  have bs := str_int' (n := b) (Nat.lt_of_le_of_lt (show b.natAbs ≤ 36 by omega) (by decide +kernel))
  have fb : Fin9 7 (intL b) := small_fine (Nat.lt_of_le_of_lt (show b.natAbs ≤ 36 by omega) (by decide))
  have be := add_S (a := intL b) (b := [101, 45, 51]) (by have := fb.2; simp only [List.length_cons, List.length_nil]; omega)
  have u0 : gMul (.int 2) (.int 0) = some (.val (.int 0)) := mul_ok (a := 2) (b := 20) (by decide) (by decide) (by decide) (by decide) (by decide)
  have u1 : gMul (.int 2) (.int 1) = some (.val (.int 2)) := mul_ok (a := 2) (b := 20) (by decide) (by decide) (by decide) (by decide) (by decide)
  obtain ⟨y1, k1, l1, t1⟩ := four_turn (s0 := .sh (.scr ns)) (s1 := .sh (.int (k : Int))) (s2 := .sh (.int c)) (s4 := .sh (.int b)) (s5 := .sh (.tup [.int n, .int e])) (s8 := .sh (.lst (rs.map runD))) u0 sl30 a30.1 a31.1 a30.2.1 a31.2.1 [] (fun x h => by cases h) (by decide) ft fp fw x12 x13 x14 x15 x16
  obtain ⟨y2, k2, l2, t2⟩ := four_turn (s0 := .sh (.scr ns)) (s1 := .sh (.int (k : Int))) (s2 := .sh (.int c)) (s4 := .sh (.int b)) (s5 := .sh (.tup [.int n, .int e])) (s8 := .sh (.lst (rs.map runD))) u1 sl32 a32.1 a33.1 a32.2.1 a33.2.1 y1 k1 (by rw [l1]; decide) ft fp fw (.sh (.str (S (joinL [32] (rs.map runT))))) x13 x14 x15 x16
  have L0 : y2.length = 80 := by rw [l2, l1]; rfl
  -- all texts
  have q1 := cat_lst (xs := y2.map .str) (ys := (lits1 ++ [S (intL b), S (intL b ++ [101, 45, 51])]).map .str) (by rw [List.length_map, List.length_map, L0]; show 80 + 11 ≤ 1000000; decide)
  have q2 := cat_lst (xs := y2.map .str ++ (lits1 ++ [S (intL b), S (intL b ++ [101, 45, 51])]).map .str) (ys := lits2.map .str) (by rw [List.length_append, List.length_map, List.length_map, List.length_map, L0]; show 80 + 11 + 12 ≤ 1000000; decide)
  have q3 := cat_lst (xs := y2.map .str ++ (lits1 ++ [S (intL b), S (intL b ++ [101, 45, 51])]).map .str ++ lits2.map .str) (ys := lits3.map .str) (by rw [List.length_append, List.length_append, List.length_map, List.length_map, List.length_map, List.length_map, L0]; show 80 + 11 + 12 + 5 ≤ 1000000; decide)
  have okA : ∀ x ∈ y2 ++ (lits1 ++ [S (intL b), S (intL b ++ [101, 45, 51])]) ++ lits2 ++ lits3, Ok9 x := fun x h => by
    rcases List.mem_append.mp h with h | h
    · rcases List.mem_append.mp h with h | h
      · rcases List.mem_append.mp h with h | h
        · exact k2 x h
        · rcases List.mem_append.mp h with h | h
          · exact ok1 x h
          · simp only [List.mem_cons, List.not_mem_nil, or_false] at h
            have f3 : Fin9 3 [101, 45, 51] := by unfold Fin9; decide
            rcases h with rfl | rfl
            · exact ok9_S (fb.up (by decide))
            · exact ok9_S (fb.cat f3 (by decide))
      · exact ok2 x h
    · exact ok3 x h
  have em : (y2 ++ (lits1 ++ [S (intL b), S (intL b ++ [101, 45, 51])]) ++ lits2 ++ lits3).map D.str = y2.map .str ++ (lits1 ++ [S (intL b), S (intL b ++ [101, 45, 51])]).map .str ++ lits2.map .str ++ lits3.map .str := by rw [List.map_append, List.map_append, List.map_append]
  obtain ⟨y12, y13, dr⟩ := doors_loop b0 (.sh (.scr ns)) (.sh (.int (k : Int))) (.sh (.int c)) (.sh (.lst (ds.map .int))) (.sh (.tup [.int n, .int e])) (.sh (.str (S (numT n e)))) (.sh (.str (S (intL pl)))) (.sh (.lst (rs.map runD))) (.sh (.str (S (joinL [32] (rs.map runT))))) (.sh (.lst ((y2 ++ (lits1 ++ [S (intL b), S (intL b ++ [101, 45, 51])]) ++ lits2 ++ lits3).map .str))) (.sh (.int 1)) x14 x15 x16 (y2 ++ (lits1 ++ [S (intL b), S (intL b ++ [101, 45, 51])]) ++ lits2 ++ lits3) (.sh (.str (S (joinL [32] (rs.map runT))))) x13 okA
  have vt := fun (v : D) (t : Str) (hi : gIsi .str v = some (.val (.bl false))) (h : gRepr v = some (.val (.str t)) ∧ (PyData.str t).canLay0 = true) => val_turn (b := b) hi h.1 h.2 (.sh (.scr ns)) (.sh (.int (k : Int))) (.sh (.int c)) (.sh (.lst (ds.map .int))) (.sh (.tup [.int n, .int e])) (.sh (.str (S (numT n e)))) (.sh (.str (S (intL pl)))) (.sh (.lst (rs.map runD))) (.sh (.str (S (joinL [32] (rs.map runT))))) (.sh (.lst ((y2 ++ (lits1 ++ [S (intL b), S (intL b ++ [101, 45, 51])]) ++ lits2 ++ lits3).map .str))) (.sh (.int 1)) y12 y13 x15 x16
  have v1 := vt .non _ rfl (plain_val (by decide +kernel))
  have v2 := vt (.int 5) _ rfl (plain_val (by decide +kernel))
  have v3 := vt (.lst [.str "1"]) _ rfl (plain_val (by decide +kernel))
  have v4 := vt (.tup [.str "1"]) _ rfl (plain_val (by decide +kernel))
  have v5 := vt (.bl true) _ rfl (plain_val (by decide +kernel))
  have v6 := vt (.dic [] []) _ rfl (plain_val (by decide +kernel))
  have v7 := vt (.tup [.int n, .int e]) _ rfl ⟨gRepr_of sh5, pair_lay49 n e⟩
  have st6 := set6 n19 e19 (.sh (.scr ns)) (.sh (.int (k : Int))) (.sh (.int c)) (.sh (.lst (ds.map .int))) (.sh (.int b)) [x6, x7, x8, x9, x10, x11, x12, x13, x14, x15, x16]
  have st9 := set9 hr0.cnt hrl (.sh (.scr ns)) (.sh (.int (k : Int))) (.sh (.int c)) (.sh (.lst (ds.map .int))) (.sh (.int b)) (.sh (.tup [.int n, .int e])) (.sh (.str (S (numT n e)))) (.sh (.str (S (intL pl)))) x9 x10 x11 x12 x13 x14 x15 x16
  have n3 := nine_mul 300 (by decide)
  have n4 := nine_mul 301 (by decide)
  have n3 : gMulN (.str "9") (.int 300) = some (.val (.str (repS 300 "9"))) := n3
  have n4 : gMulN (.str "9") (.int 301) = some (.val (.str (repS 301 "9"))) := n4
  rw [show (lits1 ++ [S (intL b), S (intL b ++ [101, 45, 51])]).map D.str = [.str "", .str "-", .str "-0", .str "0e1", .str "00", .str "1e0", .str "1e-0", .str "1e1001", .str "1e-1000", .str (S (intL b)), .str (S (intL b ++ [101, 45, 51]))] from rfl] at q1 q2 q3 em
  rw [show lits2.map D.str = [.str (repS 300 "9"), .str (repS 301 "9"), .str "1@", .str "@1", .str "1@1@1", .str "R1", .str "R0", .str "R-2", .str "R02", .str "R R", .str "RL", .str "A 2"] from rfl] at q2 q3 em
  rw [show lits3.map D.str = [.str "e5", .str "1e5e5", .str "R\tA", .str "1\t@2", .str "R  A"] from rfl] at q3 em
  rw [em] at dr v1 v2 v3 v4 v5 v6 v7
  clear em okA k1 k2 l1 l2 L0 sh5 hx vt hD at_ hd hr0 ft fp fw
  generalize S (numT n e) = TX at *
  generalize S (joinL [32] (rs.map runT)) = WD at *
  generalize S (intL pl) = PL at *
  generalize S (intL b ++ [101, 45, 51]) = BE at *
  generalize S (intL b) = BS at *
  generalize repS 300 "9" = R3 at *
  generalize repS 301 "9" = R4 at *
  generalize y1.map D.str = Y1 at *
  generalize y2.map D.str = Y2 at *
  generalize rs.map runD = RD at *
  generalize (ds.drop 1).map D.int = e1 at *
  generalize (ds.drop 12).map D.int = e12 at *
  generalize (ds.drop 30).map D.int = e30 at *
  generalize (ds.drop 32).map D.int = e32 at *
  generalize ds.map D.int = dl at *
  generalize Y2 ++ [.str "", .str "-", .str "-0", .str "0e1", .str "00", .str "1e0", .str "1e-0", .str "1e1001", .str "1e-1000", .str BS, .str BE] = YA at *
  generalize YA ++ [.str R3, .str R4, .str "1@", .str "@1", .str "1@1@1", .str "R1", .str "R0", .str "R-2", .str "R02", .str "R R", .str "RL", .str "A 2"] = YB at *
  generalize YB ++ [.str "e5", .str "1e5e5", .str "R\tA", .str "1\t@2", .str "R  A"] = YC at *
  rw [show ([] : List Str).map D.str = [] from rfl] at t1
  have r2 : rangeD 0 2 = [.int 0, .int 1] := rfl
  refine ⟨[.sh (.lst dl), .sh (.int b), .sh (.tup [.int n, .int e]), .sh (.str TX), .sh (.str PL), .sh (.lst RD), .sh (.str WD), .sh (.lst YC), .sh (.int 1), y12, y13, .sh (.tup [.int n, .int e]), x15, x16], rfl, ?_⟩
  unfold B_law_K49_6
  refine seq_step (Γ' := [.sh (.scr ns), .sh (.int (k : Int)), .sh (.int c), .sh (.lst dl), x4, x5, x6, x7, x8, x9, x10, x11, x12, x13, x14, x15, x16]) (by simp [mr, en]) ?_
  refine seq_step (Γ' := [.sh (.scr ns), .sh (.int (k : Int)), .sh (.int c), .sh (.lst dl), .sh (.int b), x5, x6, x7, x8, x9, x10, x11, x12, x13, x14, x15, x16]) (by simp [g0, hB]) ?_
  refine seq_step (Γ' := [.sh (.scr ns), .sh (.int (k : Int)), .sh (.int c), .sh (.lst dl), .sh (.int b), .sh (.tup [.int n, .int e]), x6, x7, x8, x9, x10, x11, x12, x13, x14, x15, x16]) (by simp [sl1, o1]) ?_
  refine seq_step (Γ' := [.sh (.scr ns), .sh (.int (k : Int)), .sh (.int c), .sh (.lst dl), .sh (.int b), .sh (.tup [.int n, .int e]), .sh (.str TX), x7, x8, x9, x10, x11, x12, x13, x14, x15, x16]) (by unfold mSet; rw [st6]; rfl) ?_
  refine seq_step (Γ' := [.sh (.scr ns), .sh (.int (k : Int)), .sh (.int c), .sh (.lst dl), .sh (.int b), .sh (.tup [.int n, .int e]), .sh (.str TX), .sh (.str PL), x8, x9, x10, x11, x12, x13, x14, x15, x16]) (by simp [g8, g9, g10, gp, ps]) ?_
  refine seq_step (Γ' := [.sh (.scr ns), .sh (.int (k : Int)), .sh (.int c), .sh (.lst dl), .sh (.int b), .sh (.tup [.int n, .int e]), .sh (.str TX), .sh (.str PL), .sh (.lst RD), x9, x10, x11, x12, x13, x14, x15, x16]) (by simp [sl12, g11, hm, s1]) ?_
  refine seq_step (Γ' := [.sh (.scr ns), .sh (.int (k : Int)), .sh (.int c), .sh (.lst dl), .sh (.int b), .sh (.tup [.int n, .int e]), .sh (.str TX), .sh (.str PL), .sh (.lst RD), .sh (.str WD), x10, x11, x12, x13, x14, x15, x16]) (by unfold mSet; rw [st9]; rfl) ?_
  refine seq_step (Γ' := [.sh (.scr ns), .sh (.int (k : Int)), .sh (.int c), .sh (.lst dl), .sh (.int b), .sh (.tup [.int n, .int e]), .sh (.str TX), .sh (.str PL), .sh (.lst RD), .sh (.str WD), .sh (.lst []), x11, x12, x13, x14, x15, x16]) (by simp) ?_
  refine seq_step (Γ' := [.sh (.scr ns), .sh (.int (k : Int)), .sh (.int c), .sh (.lst dl), .sh (.int b), .sh (.tup [.int n, .int e]), .sh (.str TX), .sh (.str PL), .sh (.lst RD), .sh (.str WD), .sh (.lst Y2), .sh (.int 1), .sh (.str WD), x13, x14, x15, x16]) (by simp [r2, DL.forM, t1, t2]) ?_
  refine seq_step (Γ' := [.sh (.scr ns), .sh (.int (k : Int)), .sh (.int c), .sh (.lst dl), .sh (.int b), .sh (.tup [.int n, .int e]), .sh (.str TX), .sh (.str PL), .sh (.lst RD), .sh (.str WD), .sh (.lst YA), .sh (.int 1), .sh (.str WD), x13, x14, x15, x16]) (by simp [bs, lit_e3, be, q1]) ?_
  refine seq_step (Γ' := [.sh (.scr ns), .sh (.int (k : Int)), .sh (.int c), .sh (.lst dl), .sh (.int b), .sh (.tup [.int n, .int e]), .sh (.str TX), .sh (.str PL), .sh (.lst RD), .sh (.str WD), .sh (.lst YB), .sh (.int 1), .sh (.str WD), x13, x14, x15, x16]) (by simp [n3, n4, q2]) ?_
  refine seq_step (Γ' := [.sh (.scr ns), .sh (.int (k : Int)), .sh (.int c), .sh (.lst dl), .sh (.int b), .sh (.tup [.int n, .int e]), .sh (.str TX), .sh (.str PL), .sh (.lst RD), .sh (.str WD), .sh (.lst YC), .sh (.int 1), .sh (.str WD), x13, x14, x15, x16]) (by simp [q3]) ?_
  refine seq_step (Γ' := [.sh (.scr ns), .sh (.int (k : Int)), .sh (.int c), .sh (.lst dl), .sh (.int b), .sh (.tup [.int n, .int e]), .sh (.str TX), .sh (.str PL), .sh (.lst RD), .sh (.str WD), .sh (.lst YC), .sh (.int 1), y12, y13, x14, x15, x16]) (by unfold mFor; rw [show iLst (eVar 10) _ = _ from rfl]; exact dr) ?_
  simp [DL.forM, v1, v2, v3, v4, v5, v6, v7]
theorem law_true_K49 : LawTrue M_law_K49 := law_loop (N := 8) (m := 14) (by decide) rfl turn49
end PM
namespace K49
open PySem L2 GL DL PM
theorem all_mk {l : PySem.W.OpenLaw} {w : World} {fa : Addr} {K : PySem.W.Frag} {h : Heap} {mg : Str → Option Value} (X : K.In h) (G : h.Ns mainGlobals mg) (hfa : mg "law" = some (.ref fa))
  {f_is_whole : Addr} {od_is_whole an_is_whole : Option Addr} {sl_is_whole : Array (Option Value)} {oc_is_whole kV_is_whole dc_is_whole pm_is_whole cd_is_whole ct_is_whole : Value}
  {f_is_within : Addr} {od_is_within an_is_within : Option Addr} {sl_is_within : Array (Option Value)} {oc_is_within kV_is_within dc_is_within pm_is_within cd_is_within ct_is_within : Value}
  {f_is_place : Addr} {od_is_place an_is_place : Option Addr} {sl_is_place : Array (Option Value)} {oc_is_place kV_is_place dc_is_place pm_is_place cd_is_place ct_is_place : Value}
  {f_power_of : Addr} {od_power_of an_power_of : Option Addr} {sl_power_of : Array (Option Value)} {oc_power_of kV_power_of dc_power_of pm_power_of cd_power_of ct_power_of : Value}
  {f_is_number : Addr} {od_is_number an_is_number : Option Addr} {sl_is_number : Array (Option Value)} {oc_is_number kV_is_number dc_is_number pm_is_number cd_is_number ct_is_number : Value}
  {f_has_few_digits : Addr} {od_has_few_digits an_has_few_digits : Option Addr} {sl_has_few_digits : Array (Option Value)} {oc_has_few_digits kV_has_few_digits dc_has_few_digits pm_has_few_digits cd_has_few_digits ct_has_few_digits : Value}
  {f_is_sequence : Addr} {od_is_sequence an_is_sequence : Option Addr} {sl_is_sequence : Array (Option Value)} {oc_is_sequence kV_is_sequence dc_is_sequence pm_is_sequence cd_is_sequence ct_is_sequence : Value}
  {f_wrong_run : Addr} {od_wrong_run an_wrong_run : Option Addr} {sl_wrong_run : Array (Option Value)} {oc_wrong_run kV_wrong_run dc_wrong_run pm_wrong_run cd_wrong_run ct_wrong_run : Value}
  {f_is_run : Addr} {od_is_run an_is_run : Option Addr} {sl_is_run : Array (Option Value)} {oc_is_run kV_is_run dc_is_run pm_is_run cd_is_run ct_is_run : Value}
  {f_is_pair : Addr} {od_is_pair an_is_pair : Option Addr} {sl_is_pair : Array (Option Value)} {oc_is_pair kV_is_pair dc_is_pair pm_is_pair cd_is_pair ct_is_pair : Value}
  {f_parse_number : Addr} {od_parse_number an_parse_number : Option Addr} {sl_parse_number : Array (Option Value)} {oc_parse_number kV_parse_number dc_parse_number pm_parse_number cd_parse_number ct_parse_number : Value}
  {f_parse_state : Addr} {od_parse_state an_parse_state : Option Addr} {sl_parse_state : Array (Option Value)} {oc_parse_state kV_parse_state dc_parse_state pm_parse_state cd_parse_state ct_parse_state : Value}
  {f_parse_effect : Addr} {od_parse_effect an_parse_effect : Option Addr} {sl_parse_effect : Array (Option Value)} {oc_parse_effect kV_parse_effect dc_parse_effect pm_parse_effect cd_parse_effect ct_parse_effect : Value}
  {f_parse_sequence : Addr} {od_parse_sequence an_parse_sequence : Option Addr} {sl_parse_sequence : Array (Option Value)} {oc_parse_sequence kV_parse_sequence dc_parse_sequence pm_parse_sequence cd_parse_sequence ct_parse_sequence : Value}
  {f_parse_pair : Addr} {od_parse_pair an_parse_pair : Option Addr} {sl_parse_pair : Array (Option Value)} {oc_parse_pair kV_parse_pair dc_parse_pair pm_parse_pair cd_parse_pair ct_parse_pair : Value}
  {f_pair_in : Addr} {od_pair_in an_pair_in : Option Addr} {sl_pair_in : Array (Option Value)} {oc_pair_in kV_pair_in dc_pair_in pm_pair_in cd_pair_in ct_pair_in : Value}
  {f_number_in : Addr} {od_number_in an_number_in : Option Addr} {sl_number_in : Array (Option Value)} {oc_number_in kV_number_in dc_number_in pm_number_in cd_number_in ct_number_in : Value}
  {f_sequence_in : Addr} {od_sequence_in an_sequence_in : Option Addr} {sl_sequence_in : Array (Option Value)} {oc_sequence_in kV_sequence_in dc_sequence_in pm_sequence_in cd_sequence_in ct_sequence_in : Value}
  {f_run_in : Addr} {od_run_in an_run_in : Option Addr} {sl_run_in : Array (Option Value)} {oc_run_in kV_run_in dc_run_in pm_run_in cd_run_in ct_run_in : Value}
  {f_integer_in : Addr} {od_integer_in an_integer_in : Option Addr} {sl_integer_in : Array (Option Value)} {oc_integer_in kV_integer_in dc_integer_in pm_integer_in cd_integer_in ct_integer_in : Value}
  {f_law_numbers : Addr} {od_law_numbers an_law_numbers : Option Addr} {sl_law_numbers : Array (Option Value)} {oc_law_numbers kV_law_numbers dc_law_numbers pm_law_numbers cd_law_numbers ct_law_numbers : Value}
  {f_law_form : Addr} {od_law_form an_law_form : Option Addr} {sl_law_form : Array (Option Value)} {oc_law_form kV_law_form dc_law_form pm_law_form cd_law_form ct_law_form : Value}
  {f_law_base : Addr} {od_law_base an_law_base : Option Addr} {sl_law_base : Array (Option Value)} {oc_law_base kV_law_base dc_law_base pm_law_base cd_law_base ct_law_base : Value}
  {f_law_integer : Addr} {od_law_integer an_law_integer : Option Addr} {sl_law_integer : Array (Option Value)} {oc_law_integer kV_law_integer dc_law_integer pm_law_integer cd_law_integer ct_law_integer : Value}
  {f_law_number : Addr} {od_law_number an_law_number : Option Addr} {sl_law_number : Array (Option Value)} {oc_law_number kV_law_number dc_law_number pm_law_number cd_law_number ct_law_number : Value}
  {f_law_runs : Addr} {od_law_runs an_law_runs : Option Addr} {sl_law_runs : Array (Option Value)} {oc_law_runs kV_law_runs dc_law_runs pm_law_runs cd_law_runs ct_law_runs : Value}
  {f_law_integer_of : Addr} {od_law_integer_of an_law_integer_of : Option Addr} {sl_law_integer_of : Array (Option Value)} {oc_law_integer_of kV_law_integer_of dc_law_integer_of pm_law_integer_of cd_law_integer_of ct_law_integer_of : Value}
  {f_law_number_of : Addr} {od_law_number_of an_law_number_of : Option Addr} {sl_law_number_of : Array (Option Value)} {oc_law_number_of kV_law_number_of dc_law_number_of pm_law_number_of cd_law_number_of ct_law_number_of : Value}
  {f_law_pair_of : Addr} {od_law_pair_of an_law_pair_of : Option Addr} {sl_law_pair_of : Array (Option Value)} {oc_law_pair_of kV_law_pair_of dc_law_pair_of pm_law_pair_of cd_law_pair_of ct_law_pair_of : Value}
  {f_law_runs_of : Addr} {od_law_runs_of an_law_runs_of : Option Addr} {sl_law_runs_of : Array (Option Value)} {oc_law_runs_of kV_law_runs_of dc_law_runs_of pm_law_runs_of cd_law_runs_of ct_law_runs_of : Value}
  {f_law_got : Addr} {od_law_got an_law_got : Option Addr} {sl_law_got : Array (Option Value)} {oc_law_got kV_law_got dc_law_got pm_law_got cd_law_got ct_law_got : Value}
  {f_law_want : Addr} {od_law_want an_law_want : Option Addr} {sl_law_want : Array (Option Value)} {oc_law_want kV_law_want dc_law_want pm_law_want cd_law_want ct_law_want : Value}
  {f_law_altered : Addr} {od_law_altered an_law_altered : Option Addr} {sl_law_altered : Array (Option Value)} {oc_law_altered kV_law_altered dc_law_altered pm_law_altered cd_law_altered ct_law_altered : Value}
  {f_law : Addr} {od_law an_law : Option Addr} {sl_law : Array (Option Value)} {oc_law kV_law dc_law pm_law cd_law ct_law : Value}
  {C_InvalidNumber I_InvalidNumber N_InvalidNumber : Addr} {nm_InvalidNumber q_InvalidNumber : Str} {bs_InvalidNumber bm_InvalidNumber sub_InvalidNumber : List Value} {sn_InvalidNumber : List Str} {ab_InvalidNumber : Bool} {col_InvalidNumber : Option Bool} {dd_InvalidNumber : Option Addr} {m0_InvalidNumber m1_InvalidNumber m2_InvalidNumber m3_InvalidNumber m5_InvalidNumber : Option Value}
  {od_InvalidNumber an_InvalidNumber : Option Addr} {sl_InvalidNumber : Array (Option Value)} {oc_InvalidNumber dc_InvalidNumber pm_InvalidNumber cd_InvalidNumber cv_InvalidNumber : Value}
  {C_InvalidText I_InvalidText N_InvalidText : Addr} {nm_InvalidText q_InvalidText : Str} {bs_InvalidText bm_InvalidText sub_InvalidText : List Value} {sn_InvalidText : List Str} {ab_InvalidText : Bool} {col_InvalidText : Option Bool} {dd_InvalidText : Option Addr} {m0_InvalidText m1_InvalidText m2_InvalidText m3_InvalidText m5_InvalidText : Option Value}
  {od_InvalidText an_InvalidText : Option Addr} {sl_InvalidText : Array (Option Value)} {oc_InvalidText dc_InvalidText pm_InvalidText cd_InvalidText cv_InvalidText : Value}
  {C_HeadError : Addr}
  {t_MAX_PLACE : Tok}
  {t_MAX_DIGITS : Tok}
  {A_OPERATIONS : Addr} {od_OPERATIONS : Option Addr} {n_OPERATIONS : Nat} {sl_OPERATIONS : Array (Option Value)} {t0_OPERATIONS t1_OPERATIONS t2_OPERATIONS t3_OPERATIONS : Tok}
  {t_DIGITS : Tok}
  {t_PIECE : Tok}
  (a_is_whole : PySem.W.nsIn K mainGlobals "is_whole" = some (some (.ref f_is_whole)))
  (l_is_whole : K.lookup f_is_whole = some ⟨oc_is_whole, od_is_whole, .func (PySem.W.fnOf "is_whole" "is_whole" (defArgs s_is_whole) (defBody s_is_whole) (defScope s_is_whole) .none kV_is_whole dc_is_whole pm_is_whole an_is_whole cd_is_whole ct_is_whole), sl_is_whole⟩)
  (c_is_whole : PySem.W.codeIn K cd_is_whole "is_whole" = true)
  (k_is_whole : PySem.W.keepIn K (.ref f_is_whole) = true)
  (a_is_within : PySem.W.nsIn K mainGlobals "is_within" = some (some (.ref f_is_within)))
  (l_is_within : K.lookup f_is_within = some ⟨oc_is_within, od_is_within, .func (PySem.W.fnOf "is_within" "is_within" (defArgs s_is_within) (defBody s_is_within) (defScope s_is_within) .none kV_is_within dc_is_within pm_is_within an_is_within cd_is_within ct_is_within), sl_is_within⟩)
  (c_is_within : PySem.W.codeIn K cd_is_within "is_within" = true)
  (k_is_within : PySem.W.keepIn K (.ref f_is_within) = true)
  (a_is_place : PySem.W.nsIn K mainGlobals "is_place" = some (some (.ref f_is_place)))
  (l_is_place : K.lookup f_is_place = some ⟨oc_is_place, od_is_place, .func (PySem.W.fnOf "is_place" "is_place" (defArgs s_is_place) (defBody s_is_place) (defScope s_is_place) .none kV_is_place dc_is_place pm_is_place an_is_place cd_is_place ct_is_place), sl_is_place⟩)
  (c_is_place : PySem.W.codeIn K cd_is_place "is_place" = true)
  (k_is_place : PySem.W.keepIn K (.ref f_is_place) = true)
  (a_power_of : PySem.W.nsIn K mainGlobals "power_of" = some (some (.ref f_power_of)))
  (l_power_of : K.lookup f_power_of = some ⟨oc_power_of, od_power_of, .func (PySem.W.fnOf "power_of" "power_of" (defArgs s_power_of) (defBody s_power_of) (defScope s_power_of) .none kV_power_of dc_power_of pm_power_of an_power_of cd_power_of ct_power_of), sl_power_of⟩)
  (c_power_of : PySem.W.codeIn K cd_power_of "power_of" = true)
  (k_power_of : PySem.W.keepIn K (.ref f_power_of) = true)
  (a_is_number : PySem.W.nsIn K mainGlobals "is_number" = some (some (.ref f_is_number)))
  (l_is_number : K.lookup f_is_number = some ⟨oc_is_number, od_is_number, .func (PySem.W.fnOf "is_number" "is_number" (defArgs s_is_number) (defBody s_is_number) (defScope s_is_number) .none kV_is_number dc_is_number pm_is_number an_is_number cd_is_number ct_is_number), sl_is_number⟩)
  (c_is_number : PySem.W.codeIn K cd_is_number "is_number" = true)
  (k_is_number : PySem.W.keepIn K (.ref f_is_number) = true)
  (a_has_few_digits : PySem.W.nsIn K mainGlobals "has_few_digits" = some (some (.ref f_has_few_digits)))
  (l_has_few_digits : K.lookup f_has_few_digits = some ⟨oc_has_few_digits, od_has_few_digits, .func (PySem.W.fnOf "has_few_digits" "has_few_digits" (defArgs s_has_few_digits) (defBody s_has_few_digits) (defScope s_has_few_digits) .none kV_has_few_digits dc_has_few_digits pm_has_few_digits an_has_few_digits cd_has_few_digits ct_has_few_digits), sl_has_few_digits⟩)
  (c_has_few_digits : PySem.W.codeIn K cd_has_few_digits "has_few_digits" = true)
  (k_has_few_digits : PySem.W.keepIn K (.ref f_has_few_digits) = true)
  (a_is_sequence : PySem.W.nsIn K mainGlobals "is_sequence" = some (some (.ref f_is_sequence)))
  (l_is_sequence : K.lookup f_is_sequence = some ⟨oc_is_sequence, od_is_sequence, .func (PySem.W.fnOf "is_sequence" "is_sequence" (defArgs s_is_sequence) (defBody s_is_sequence) (defScope s_is_sequence) .none kV_is_sequence dc_is_sequence pm_is_sequence an_is_sequence cd_is_sequence ct_is_sequence), sl_is_sequence⟩)
  (c_is_sequence : PySem.W.codeIn K cd_is_sequence "is_sequence" = true)
  (k_is_sequence : PySem.W.keepIn K (.ref f_is_sequence) = true)
  (a_wrong_run : PySem.W.nsIn K mainGlobals "wrong_run" = some (some (.ref f_wrong_run)))
  (l_wrong_run : K.lookup f_wrong_run = some ⟨oc_wrong_run, od_wrong_run, .func (PySem.W.fnOf "wrong_run" "wrong_run" (defArgs s_wrong_run) (defBody s_wrong_run) (defScope s_wrong_run) .none kV_wrong_run dc_wrong_run pm_wrong_run an_wrong_run cd_wrong_run ct_wrong_run), sl_wrong_run⟩)
  (c_wrong_run : PySem.W.codeIn K cd_wrong_run "wrong_run" = true)
  (k_wrong_run : PySem.W.keepIn K (.ref f_wrong_run) = true)
  (a_is_run : PySem.W.nsIn K mainGlobals "is_run" = some (some (.ref f_is_run)))
  (l_is_run : K.lookup f_is_run = some ⟨oc_is_run, od_is_run, .func (PySem.W.fnOf "is_run" "is_run" (defArgs s_is_run) (defBody s_is_run) (defScope s_is_run) .none kV_is_run dc_is_run pm_is_run an_is_run cd_is_run ct_is_run), sl_is_run⟩)
  (c_is_run : PySem.W.codeIn K cd_is_run "is_run" = true)
  (k_is_run : PySem.W.keepIn K (.ref f_is_run) = true)
  (a_is_pair : PySem.W.nsIn K mainGlobals "is_pair" = some (some (.ref f_is_pair)))
  (l_is_pair : K.lookup f_is_pair = some ⟨oc_is_pair, od_is_pair, .func (PySem.W.fnOf "is_pair" "is_pair" (defArgs s_is_pair) (defBody s_is_pair) (defScope s_is_pair) .none kV_is_pair dc_is_pair pm_is_pair an_is_pair cd_is_pair ct_is_pair), sl_is_pair⟩)
  (c_is_pair : PySem.W.codeIn K cd_is_pair "is_pair" = true)
  (k_is_pair : PySem.W.keepIn K (.ref f_is_pair) = true)
  (a_parse_number : PySem.W.nsIn K mainGlobals "parse_number" = some (some (.ref f_parse_number)))
  (l_parse_number : K.lookup f_parse_number = some ⟨oc_parse_number, od_parse_number, .func (PySem.W.fnOf "parse_number" "parse_number" (defArgs s_parse_number) (defBody s_parse_number) (defScope s_parse_number) .none kV_parse_number dc_parse_number pm_parse_number an_parse_number cd_parse_number ct_parse_number), sl_parse_number⟩)
  (c_parse_number : PySem.W.codeIn K cd_parse_number "parse_number" = true)
  (k_parse_number : PySem.W.keepIn K (.ref f_parse_number) = true)
  (a_parse_state : PySem.W.nsIn K mainGlobals "parse_state" = some (some (.ref f_parse_state)))
  (l_parse_state : K.lookup f_parse_state = some ⟨oc_parse_state, od_parse_state, .func (PySem.W.fnOf "parse_state" "parse_state" (defArgs s_parse_state) (defBody s_parse_state) (defScope s_parse_state) .none kV_parse_state dc_parse_state pm_parse_state an_parse_state cd_parse_state ct_parse_state), sl_parse_state⟩)
  (c_parse_state : PySem.W.codeIn K cd_parse_state "parse_state" = true)
  (k_parse_state : PySem.W.keepIn K (.ref f_parse_state) = true)
  (a_parse_effect : PySem.W.nsIn K mainGlobals "parse_effect" = some (some (.ref f_parse_effect)))
  (l_parse_effect : K.lookup f_parse_effect = some ⟨oc_parse_effect, od_parse_effect, .func (PySem.W.fnOf "parse_effect" "parse_effect" (defArgs s_parse_effect) (defBody s_parse_effect) (defScope s_parse_effect) .none kV_parse_effect dc_parse_effect pm_parse_effect an_parse_effect cd_parse_effect ct_parse_effect), sl_parse_effect⟩)
  (c_parse_effect : PySem.W.codeIn K cd_parse_effect "parse_effect" = true)
  (k_parse_effect : PySem.W.keepIn K (.ref f_parse_effect) = true)
  (a_parse_sequence : PySem.W.nsIn K mainGlobals "parse_sequence" = some (some (.ref f_parse_sequence)))
  (l_parse_sequence : K.lookup f_parse_sequence = some ⟨oc_parse_sequence, od_parse_sequence, .func (PySem.W.fnOf "parse_sequence" "parse_sequence" (defArgs s_parse_sequence) (defBody s_parse_sequence) (defScope s_parse_sequence) .none kV_parse_sequence dc_parse_sequence pm_parse_sequence an_parse_sequence cd_parse_sequence ct_parse_sequence), sl_parse_sequence⟩)
  (c_parse_sequence : PySem.W.codeIn K cd_parse_sequence "parse_sequence" = true)
  (k_parse_sequence : PySem.W.keepIn K (.ref f_parse_sequence) = true)
  (a_parse_pair : PySem.W.nsIn K mainGlobals "parse_pair" = some (some (.ref f_parse_pair)))
  (l_parse_pair : K.lookup f_parse_pair = some ⟨oc_parse_pair, od_parse_pair, .func (PySem.W.fnOf "parse_pair" "parse_pair" (defArgs s_parse_pair) (defBody s_parse_pair) (defScope s_parse_pair) .none kV_parse_pair dc_parse_pair pm_parse_pair an_parse_pair cd_parse_pair ct_parse_pair), sl_parse_pair⟩)
  (c_parse_pair : PySem.W.codeIn K cd_parse_pair "parse_pair" = true)
  (k_parse_pair : PySem.W.keepIn K (.ref f_parse_pair) = true)
  (a_pair_in : PySem.W.nsIn K mainGlobals "pair_in" = some (some (.ref f_pair_in)))
  (l_pair_in : K.lookup f_pair_in = some ⟨oc_pair_in, od_pair_in, .func (PySem.W.fnOf "pair_in" "pair_in" (defArgs s_pair_in) (defBody s_pair_in) (defScope s_pair_in) .none kV_pair_in dc_pair_in pm_pair_in an_pair_in cd_pair_in ct_pair_in), sl_pair_in⟩)
  (c_pair_in : PySem.W.codeIn K cd_pair_in "pair_in" = true)
  (k_pair_in : PySem.W.keepIn K (.ref f_pair_in) = true)
  (a_number_in : PySem.W.nsIn K mainGlobals "number_in" = some (some (.ref f_number_in)))
  (l_number_in : K.lookup f_number_in = some ⟨oc_number_in, od_number_in, .func (PySem.W.fnOf "number_in" "number_in" (defArgs s_number_in) (defBody s_number_in) (defScope s_number_in) .none kV_number_in dc_number_in pm_number_in an_number_in cd_number_in ct_number_in), sl_number_in⟩)
  (c_number_in : PySem.W.codeIn K cd_number_in "number_in" = true)
  (k_number_in : PySem.W.keepIn K (.ref f_number_in) = true)
  (a_sequence_in : PySem.W.nsIn K mainGlobals "sequence_in" = some (some (.ref f_sequence_in)))
  (l_sequence_in : K.lookup f_sequence_in = some ⟨oc_sequence_in, od_sequence_in, .func (PySem.W.fnOf "sequence_in" "sequence_in" (defArgs s_sequence_in) (defBody s_sequence_in) (defScope s_sequence_in) .none kV_sequence_in dc_sequence_in pm_sequence_in an_sequence_in cd_sequence_in ct_sequence_in), sl_sequence_in⟩)
  (c_sequence_in : PySem.W.codeIn K cd_sequence_in "sequence_in" = true)
  (k_sequence_in : PySem.W.keepIn K (.ref f_sequence_in) = true)
  (a_run_in : PySem.W.nsIn K mainGlobals "run_in" = some (some (.ref f_run_in)))
  (l_run_in : K.lookup f_run_in = some ⟨oc_run_in, od_run_in, .func (PySem.W.fnOf "run_in" "run_in" (defArgs s_run_in) (defBody s_run_in) (defScope s_run_in) .none kV_run_in dc_run_in pm_run_in an_run_in cd_run_in ct_run_in), sl_run_in⟩)
  (c_run_in : PySem.W.codeIn K cd_run_in "run_in" = true)
  (k_run_in : PySem.W.keepIn K (.ref f_run_in) = true)
  (a_integer_in : PySem.W.nsIn K mainGlobals "integer_in" = some (some (.ref f_integer_in)))
  (l_integer_in : K.lookup f_integer_in = some ⟨oc_integer_in, od_integer_in, .func (PySem.W.fnOf "integer_in" "integer_in" (defArgs s_integer_in) (defBody s_integer_in) (defScope s_integer_in) .none kV_integer_in dc_integer_in pm_integer_in an_integer_in cd_integer_in ct_integer_in), sl_integer_in⟩)
  (c_integer_in : PySem.W.codeIn K cd_integer_in "integer_in" = true)
  (k_integer_in : PySem.W.keepIn K (.ref f_integer_in) = true)
  (a_law_numbers : PySem.W.nsIn K mainGlobals "_law_numbers" = some (some (.ref f_law_numbers)))
  (l_law_numbers : K.lookup f_law_numbers = some ⟨oc_law_numbers, od_law_numbers, .func (PySem.W.fnOf "_law_numbers" "_law_numbers" (defArgs s_law_numbers) (defBody s_law_numbers) (defScope s_law_numbers) .none kV_law_numbers dc_law_numbers pm_law_numbers an_law_numbers cd_law_numbers ct_law_numbers), sl_law_numbers⟩)
  (c_law_numbers : PySem.W.codeIn K cd_law_numbers "_law_numbers" = true)
  (k_law_numbers : PySem.W.keepIn K (.ref f_law_numbers) = true)
  (a_law_form : PySem.W.nsIn K mainGlobals "_law_form" = some (some (.ref f_law_form)))
  (l_law_form : K.lookup f_law_form = some ⟨oc_law_form, od_law_form, .func (PySem.W.fnOf "_law_form" "_law_form" (defArgs s_law_form) (defBody s_law_form) (defScope s_law_form) .none kV_law_form dc_law_form pm_law_form an_law_form cd_law_form ct_law_form), sl_law_form⟩)
  (c_law_form : PySem.W.codeIn K cd_law_form "_law_form" = true)
  (k_law_form : PySem.W.keepIn K (.ref f_law_form) = true)
  (a_law_base : PySem.W.nsIn K mainGlobals "_law_base" = some (some (.ref f_law_base)))
  (l_law_base : K.lookup f_law_base = some ⟨oc_law_base, od_law_base, .func (PySem.W.fnOf "_law_base" "_law_base" (defArgs s_law_base) (defBody s_law_base) (defScope s_law_base) .none kV_law_base dc_law_base pm_law_base an_law_base cd_law_base ct_law_base), sl_law_base⟩)
  (c_law_base : PySem.W.codeIn K cd_law_base "_law_base" = true)
  (k_law_base : PySem.W.keepIn K (.ref f_law_base) = true)
  (a_law_integer : PySem.W.nsIn K mainGlobals "_law_integer" = some (some (.ref f_law_integer)))
  (l_law_integer : K.lookup f_law_integer = some ⟨oc_law_integer, od_law_integer, .func (PySem.W.fnOf "_law_integer" "_law_integer" (defArgs s_law_integer) (defBody s_law_integer) (defScope s_law_integer) .none kV_law_integer dc_law_integer pm_law_integer an_law_integer cd_law_integer ct_law_integer), sl_law_integer⟩)
  (c_law_integer : PySem.W.codeIn K cd_law_integer "_law_integer" = true)
  (k_law_integer : PySem.W.keepIn K (.ref f_law_integer) = true)
  (a_law_number : PySem.W.nsIn K mainGlobals "_law_number" = some (some (.ref f_law_number)))
  (l_law_number : K.lookup f_law_number = some ⟨oc_law_number, od_law_number, .func (PySem.W.fnOf "_law_number" "_law_number" (defArgs s_law_number) (defBody s_law_number) (defScope s_law_number) .none kV_law_number dc_law_number pm_law_number an_law_number cd_law_number ct_law_number), sl_law_number⟩)
  (c_law_number : PySem.W.codeIn K cd_law_number "_law_number" = true)
  (k_law_number : PySem.W.keepIn K (.ref f_law_number) = true)
  (a_law_runs : PySem.W.nsIn K mainGlobals "_law_runs" = some (some (.ref f_law_runs)))
  (l_law_runs : K.lookup f_law_runs = some ⟨oc_law_runs, od_law_runs, .func (PySem.W.fnOf "_law_runs" "_law_runs" (defArgs s_law_runs) (defBody s_law_runs) (defScope s_law_runs) .none kV_law_runs dc_law_runs pm_law_runs an_law_runs cd_law_runs ct_law_runs), sl_law_runs⟩)
  (c_law_runs : PySem.W.codeIn K cd_law_runs "_law_runs" = true)
  (k_law_runs : PySem.W.keepIn K (.ref f_law_runs) = true)
  (a_law_integer_of : PySem.W.nsIn K mainGlobals "_law_integer_of" = some (some (.ref f_law_integer_of)))
  (l_law_integer_of : K.lookup f_law_integer_of = some ⟨oc_law_integer_of, od_law_integer_of, .func (PySem.W.fnOf "_law_integer_of" "_law_integer_of" (defArgs s_law_integer_of) (defBody s_law_integer_of) (defScope s_law_integer_of) .none kV_law_integer_of dc_law_integer_of pm_law_integer_of an_law_integer_of cd_law_integer_of ct_law_integer_of), sl_law_integer_of⟩)
  (c_law_integer_of : PySem.W.codeIn K cd_law_integer_of "_law_integer_of" = true)
  (k_law_integer_of : PySem.W.keepIn K (.ref f_law_integer_of) = true)
  (a_law_number_of : PySem.W.nsIn K mainGlobals "_law_number_of" = some (some (.ref f_law_number_of)))
  (l_law_number_of : K.lookup f_law_number_of = some ⟨oc_law_number_of, od_law_number_of, .func (PySem.W.fnOf "_law_number_of" "_law_number_of" (defArgs s_law_number_of) (defBody s_law_number_of) (defScope s_law_number_of) .none kV_law_number_of dc_law_number_of pm_law_number_of an_law_number_of cd_law_number_of ct_law_number_of), sl_law_number_of⟩)
  (c_law_number_of : PySem.W.codeIn K cd_law_number_of "_law_number_of" = true)
  (k_law_number_of : PySem.W.keepIn K (.ref f_law_number_of) = true)
  (a_law_pair_of : PySem.W.nsIn K mainGlobals "_law_pair_of" = some (some (.ref f_law_pair_of)))
  (l_law_pair_of : K.lookup f_law_pair_of = some ⟨oc_law_pair_of, od_law_pair_of, .func (PySem.W.fnOf "_law_pair_of" "_law_pair_of" (defArgs s_law_pair_of) (defBody s_law_pair_of) (defScope s_law_pair_of) .none kV_law_pair_of dc_law_pair_of pm_law_pair_of an_law_pair_of cd_law_pair_of ct_law_pair_of), sl_law_pair_of⟩)
  (c_law_pair_of : PySem.W.codeIn K cd_law_pair_of "_law_pair_of" = true)
  (k_law_pair_of : PySem.W.keepIn K (.ref f_law_pair_of) = true)
  (a_law_runs_of : PySem.W.nsIn K mainGlobals "_law_runs_of" = some (some (.ref f_law_runs_of)))
  (l_law_runs_of : K.lookup f_law_runs_of = some ⟨oc_law_runs_of, od_law_runs_of, .func (PySem.W.fnOf "_law_runs_of" "_law_runs_of" (defArgs s_law_runs_of) (defBody s_law_runs_of) (defScope s_law_runs_of) .none kV_law_runs_of dc_law_runs_of pm_law_runs_of an_law_runs_of cd_law_runs_of ct_law_runs_of), sl_law_runs_of⟩)
  (c_law_runs_of : PySem.W.codeIn K cd_law_runs_of "_law_runs_of" = true)
  (k_law_runs_of : PySem.W.keepIn K (.ref f_law_runs_of) = true)
  (a_law_got : PySem.W.nsIn K mainGlobals "_law_got" = some (some (.ref f_law_got)))
  (l_law_got : K.lookup f_law_got = some ⟨oc_law_got, od_law_got, .func (PySem.W.fnOf "_law_got" "_law_got" (defArgs s_law_got) (defBody s_law_got) (defScope s_law_got) .none kV_law_got dc_law_got pm_law_got an_law_got cd_law_got ct_law_got), sl_law_got⟩)
  (c_law_got : PySem.W.codeIn K cd_law_got "_law_got" = true)
  (k_law_got : PySem.W.keepIn K (.ref f_law_got) = true)
  (a_law_want : PySem.W.nsIn K mainGlobals "_law_want" = some (some (.ref f_law_want)))
  (l_law_want : K.lookup f_law_want = some ⟨oc_law_want, od_law_want, .func (PySem.W.fnOf "_law_want" "_law_want" (defArgs s_law_want) (defBody s_law_want) (defScope s_law_want) .none kV_law_want dc_law_want pm_law_want an_law_want cd_law_want ct_law_want), sl_law_want⟩)
  (c_law_want : PySem.W.codeIn K cd_law_want "_law_want" = true)
  (k_law_want : PySem.W.keepIn K (.ref f_law_want) = true)
  (a_law_altered : PySem.W.nsIn K mainGlobals "_law_altered" = some (some (.ref f_law_altered)))
  (l_law_altered : K.lookup f_law_altered = some ⟨oc_law_altered, od_law_altered, .func (PySem.W.fnOf "_law_altered" "_law_altered" (defArgs s_law_altered) (defBody s_law_altered) (defScope s_law_altered) .none kV_law_altered dc_law_altered pm_law_altered an_law_altered cd_law_altered ct_law_altered), sl_law_altered⟩)
  (c_law_altered : PySem.W.codeIn K cd_law_altered "_law_altered" = true)
  (k_law_altered : PySem.W.keepIn K (.ref f_law_altered) = true)
  (a_law : PySem.W.nsIn K mainGlobals "law" = some (some (.ref f_law)))
  (l_law : K.lookup f_law = some ⟨oc_law, od_law, .func (PySem.W.fnOf "law" "law" (defArgs s_law) (defBody s_law) (defScope s_law) .none kV_law dc_law pm_law an_law cd_law ct_law), sl_law⟩)
  (c_law : PySem.W.codeIn K cd_law "law" = true)
  (k_law : PySem.W.keepIn K (.ref f_law) = true)
  (a_InvalidNumber : PySem.W.nsIn K mainGlobals "InvalidNumber" = some (some (.ref C_InvalidNumber)))
  (x_InvalidNumber : K.lookup C_InvalidNumber = some (excClassObj nm_InvalidNumber q_InvalidNumber C_InvalidNumber N_InvalidNumber bs_InvalidNumber bm_InvalidNumber true sn_InvalidNumber sub_InvalidNumber ab_InvalidNumber col_InvalidNumber dd_InvalidNumber m0_InvalidNumber m1_InvalidNumber m2_InvalidNumber m3_InvalidNumber m5_InvalidNumber "Exception.__new__"))
  (xt_InvalidNumber : PySem.W.excTail [.type "Exception", .type "BaseException", .type "object"] bm_InvalidNumber = true)
  (ov_InvalidNumber : PySem.W.excOver K C_InvalidNumber [.type "Exception", .type "BaseException", .type "object"] = true)
  (sa_InvalidNumber : PySem.W.findIn K (.ref C_InvalidNumber) "__setattr__" = some (some (.builtin "object.__setattr__")))
  (ga_InvalidNumber : PySem.W.findIn K (.ref C_InvalidNumber) "__getattribute__" = some (some (.builtin "BaseException.__getattribute__")))
  (gg_InvalidNumber : PySem.W.findIn K (.ref C_InvalidNumber) "__getattr__" = some none)
  (nn_InvalidNumber : PySem.W.findIn K (.ref C_InvalidNumber) "value" = some none)
  (ii_InvalidNumber : PySem.W.findIn K (.ref C_InvalidNumber) "__init__" = some (some (.ref I_InvalidNumber)))
  (cc_InvalidNumber : PySem.W.findIn K (.ref C_InvalidNumber) "__class__" = some (some (.builtin "object.__class__")))
  (ti_InvalidNumber : PySem.W.typeIn K (.ref I_InvalidNumber) = some (.type "function"))
  (kc_InvalidNumber : PySem.W.keepIn K (.ref C_InvalidNumber) = true)
  (ex_InvalidNumber : PySem.W.subIn K (.ref C_InvalidNumber) (.type "BaseException") = some true)
  (tc_InvalidNumber : PySem.W.typeIn K (.ref C_InvalidNumber) = some (.type "type"))
  (hd_InvalidNumber : PySem.W.hasDictIn K C_InvalidNumber = true)
  (te_InvalidNumber : PySem.W.exmOne K (.ref C_InvalidNumber) (.ref C_InvalidNumber) = some true)
  (cn_InvalidNumber : PySem.W.specialIn K (.builtin "object.__class__") "__get__" = some (some (.builtin "getset_descriptor.__get__")))
  (ct_InvalidNumber : PySem.W.takesIn K (.builtin "object.__class__") = some true)
  (cm_InvalidNumber : PySem.W.mroIn K C_InvalidNumber (.type "object") = some true)
  (li_InvalidNumber : K.lookup I_InvalidNumber = some ⟨oc_InvalidNumber, od_InvalidNumber, .func (PySem.W.fnOf "__init__" "InvalidNumber.__init__" (defArgs (inClass (top 2) 0)) (defBody (inClass (top 2) 0)) (defScope (inClass (top 2) 0)) .none .none dc_InvalidNumber pm_InvalidNumber an_InvalidNumber cd_InvalidNumber cv_InvalidNumber), sl_InvalidNumber⟩)
  (ci_InvalidNumber : PySem.W.codeIn K cd_InvalidNumber "InvalidNumber.__init__" = true)
  (a_InvalidText : PySem.W.nsIn K mainGlobals "InvalidText" = some (some (.ref C_InvalidText)))
  (x_InvalidText : K.lookup C_InvalidText = some (excClassObj nm_InvalidText q_InvalidText C_InvalidText N_InvalidText bs_InvalidText bm_InvalidText true sn_InvalidText sub_InvalidText ab_InvalidText col_InvalidText dd_InvalidText m0_InvalidText m1_InvalidText m2_InvalidText m3_InvalidText m5_InvalidText "Exception.__new__"))
  (xt_InvalidText : PySem.W.excTail [.type "Exception", .type "BaseException", .type "object"] bm_InvalidText = true)
  (ov_InvalidText : PySem.W.excOver K C_InvalidText [.type "Exception", .type "BaseException", .type "object"] = true)
  (sa_InvalidText : PySem.W.findIn K (.ref C_InvalidText) "__setattr__" = some (some (.builtin "object.__setattr__")))
  (ga_InvalidText : PySem.W.findIn K (.ref C_InvalidText) "__getattribute__" = some (some (.builtin "BaseException.__getattribute__")))
  (gg_InvalidText : PySem.W.findIn K (.ref C_InvalidText) "__getattr__" = some none)
  (nn_InvalidText : PySem.W.findIn K (.ref C_InvalidText) "value" = some none)
  (ii_InvalidText : PySem.W.findIn K (.ref C_InvalidText) "__init__" = some (some (.ref I_InvalidText)))
  (cc_InvalidText : PySem.W.findIn K (.ref C_InvalidText) "__class__" = some (some (.builtin "object.__class__")))
  (ti_InvalidText : PySem.W.typeIn K (.ref I_InvalidText) = some (.type "function"))
  (kc_InvalidText : PySem.W.keepIn K (.ref C_InvalidText) = true)
  (ex_InvalidText : PySem.W.subIn K (.ref C_InvalidText) (.type "BaseException") = some true)
  (tc_InvalidText : PySem.W.typeIn K (.ref C_InvalidText) = some (.type "type"))
  (hd_InvalidText : PySem.W.hasDictIn K C_InvalidText = true)
  (te_InvalidText : PySem.W.exmOne K (.ref C_InvalidText) (.ref C_InvalidText) = some true)
  (cn_InvalidText : PySem.W.specialIn K (.builtin "object.__class__") "__get__" = some (some (.builtin "getset_descriptor.__get__")))
  (ct_InvalidText : PySem.W.takesIn K (.builtin "object.__class__") = some true)
  (cm_InvalidText : PySem.W.mroIn K C_InvalidText (.type "object") = some true)
  (li_InvalidText : K.lookup I_InvalidText = some ⟨oc_InvalidText, od_InvalidText, .func (PySem.W.fnOf "__init__" "InvalidText.__init__" (defArgs (inClass (top 3) 0)) (defBody (inClass (top 3) 0)) (defScope (inClass (top 3) 0)) .none .none dc_InvalidText pm_InvalidText an_InvalidText cd_InvalidText cv_InvalidText), sl_InvalidText⟩)
  (ci_InvalidText : PySem.W.codeIn K cd_InvalidText "InvalidText.__init__" = true)
  (a_HeadError : PySem.W.nsIn K mainGlobals "HeadError" = some (some (.ref C_HeadError)))
  (n_MAX_PLACE : PySem.W.nsIn K mainGlobals "MAX_PLACE" = some (some (.int 1000 t_MAX_PLACE)))
  (n_MAX_DIGITS : PySem.W.nsIn K mainGlobals "MAX_DIGITS" = some (some (.int 300 t_MAX_DIGITS)))
  (a_OPERATIONS : PySem.W.nsIn K mainGlobals "OPERATIONS" = some (some (.ref A_OPERATIONS)))
  (l_OPERATIONS : K.lookup A_OPERATIONS = some ⟨.type "tuple", od_OPERATIONS, .seq (List.toArray [.str "R" t0_OPERATIONS, .str "L" t1_OPERATIONS, .str "A" t2_OPERATIONS, .str "S" t3_OPERATIONS]) n_OPERATIONS, sl_OPERATIONS⟩)
  (n_DIGITS : PySem.W.nsIn K mainGlobals "DIGITS" = some (some (.str "0123456789" t_DIGITS)))
  (n_PIECE : PySem.W.nsIn K mainGlobals "PIECE" = some (some (.int 1000 t_PIECE)))
  (z_abs : PySem.W.nsIn K mainGlobals "abs" = some none)
  (z_all : PySem.W.nsIn K mainGlobals "all" = some none)
  (z_bool : PySem.W.nsIn K mainGlobals "bool" = some none)
  (z_enumerate : PySem.W.nsIn K mainGlobals "enumerate" = some none)
  (z_int : PySem.W.nsIn K mainGlobals "int" = some none)
  (z_isinstance : PySem.W.nsIn K mainGlobals "isinstance" = some none)
  (z_len : PySem.W.nsIn K mainGlobals "len" = some none)
  (z_list : PySem.W.nsIn K mainGlobals "list" = some none)
  (z_max : PySem.W.nsIn K mainGlobals "max" = some none)
  (z_range : PySem.W.nsIn K mainGlobals "range" = some none)
  (z_repr : PySem.W.nsIn K mainGlobals "repr" = some none)
  (z_str : PySem.W.nsIn K mainGlobals "str" = some none)
  (z_tuple : PySem.W.nsIn K mainGlobals "tuple" = some none)
  (x_kit_InvalidText_HeadError : PySem.W.kitOne K (.ref C_InvalidText) (.ref C_HeadError) = some true)
  (x_kit_InvalidText_InvalidNumber : PySem.W.kitOne K (.ref C_InvalidText) (.ref C_InvalidNumber) = some false)
  (x_exm_InvalidNumber_InvalidText : PySem.W.exmOne K (.ref C_InvalidNumber) (.ref C_InvalidText) = some false)

    : ∃ fd : FuncData, (∀ (s : Shared) (v : Value), BindsTo s fd ⟨[v], []⟩ [("_law_script", v)]) ∧ ∀ base : Heap, K.In base → base.Ns mainGlobals mg → base.NoDigits → FnG l.prog w K mg base (L2.CX l.prog w) 11 fa fd ["_law_script"] (sp_law K) := by
  have e := hfa.symm.trans (PySem.W.mg_of X G a_law)
  cases e
  exact ⟨_, fun s v => .of_eq rfl, fun base _ _ nd => law_sp (PM.law_true_K49) (ok_law (P := l.prog) (w := w) (base := base) (mkTx X G a_is_whole l_is_whole c_is_whole k_is_whole a_is_within l_is_within c_is_within k_is_within a_is_place l_is_place c_is_place k_is_place a_power_of l_power_of c_power_of k_power_of a_is_number l_is_number c_is_number k_is_number a_has_few_digits l_has_few_digits c_has_few_digits k_has_few_digits a_is_sequence l_is_sequence c_is_sequence k_is_sequence a_wrong_run l_wrong_run c_wrong_run k_wrong_run a_is_run l_is_run c_is_run k_is_run a_is_pair l_is_pair c_is_pair k_is_pair a_parse_number l_parse_number c_parse_number k_parse_number a_parse_state l_parse_state c_parse_state k_parse_state a_parse_effect l_parse_effect c_parse_effect k_parse_effect a_parse_sequence l_parse_sequence c_parse_sequence k_parse_sequence a_parse_pair l_parse_pair c_parse_pair k_parse_pair a_pair_in l_pair_in c_pair_in k_pair_in a_number_in l_number_in c_number_in k_number_in a_sequence_in l_sequence_in c_sequence_in k_sequence_in a_run_in l_run_in c_run_in k_run_in a_integer_in l_integer_in c_integer_in k_integer_in a_law_numbers l_law_numbers c_law_numbers k_law_numbers a_law_form l_law_form c_law_form k_law_form a_law_base l_law_base c_law_base k_law_base a_law_integer l_law_integer c_law_integer k_law_integer a_law_number l_law_number c_law_number k_law_number a_law_runs l_law_runs c_law_runs k_law_runs a_law_integer_of l_law_integer_of c_law_integer_of k_law_integer_of a_law_number_of l_law_number_of c_law_number_of k_law_number_of a_law_pair_of l_law_pair_of c_law_pair_of k_law_pair_of a_law_runs_of l_law_runs_of c_law_runs_of k_law_runs_of a_law_got l_law_got c_law_got k_law_got a_law_want l_law_want c_law_want k_law_want a_law_altered l_law_altered c_law_altered k_law_altered a_law l_law c_law k_law a_InvalidNumber x_InvalidNumber xt_InvalidNumber ov_InvalidNumber sa_InvalidNumber ga_InvalidNumber gg_InvalidNumber nn_InvalidNumber ii_InvalidNumber cc_InvalidNumber ti_InvalidNumber kc_InvalidNumber ex_InvalidNumber tc_InvalidNumber hd_InvalidNumber te_InvalidNumber cn_InvalidNumber ct_InvalidNumber cm_InvalidNumber li_InvalidNumber ci_InvalidNumber a_InvalidText x_InvalidText xt_InvalidText ov_InvalidText sa_InvalidText ga_InvalidText gg_InvalidText nn_InvalidText ii_InvalidText cc_InvalidText ti_InvalidText kc_InvalidText ex_InvalidText tc_InvalidText hd_InvalidText te_InvalidText cn_InvalidText ct_InvalidText cm_InvalidText li_InvalidText ci_InvalidText a_HeadError n_MAX_PLACE n_MAX_DIGITS a_OPERATIONS l_OPERATIONS n_DIGITS n_PIECE z_abs z_all z_bool z_enumerate z_int z_isinstance z_len z_list z_max z_range z_repr z_str z_tuple x_kit_InvalidText_HeadError x_kit_InvalidText_InvalidNumber x_exm_InvalidNumber_InvalidText) nd)⟩
end K49
open PySem PySem.W PyProof.Rows
set_option maxRecDepth 100000 in
set_option maxHeartbeats 0 in
theorem PySem.Challenge.cw_abacushead_k49_texts_that_are_invalid_holds : PySem.Challenge.rw_abacushead_k49_texts_that_are_invalid.Holds := by
  w_on; o_law; k_head; (case hw => w_witness2)
  k_fill
  refine DL.walkD (k := 11) (x := "_law_script") (l := PySem.Challenge.rw_abacushead_k49_texts_that_are_invalid) rfl rfl ⟨rfl, by decide, by decide⟩ (fun w h Y => PySem.W.kIn_of Y) ?F
  case F =>
    intro w mg fa h KX G hmg
    refine' K49.all_mk KX G hmg ?a_is_whole ?l_is_whole ?c_is_whole ?k_is_whole ?a_is_within ?l_is_within ?c_is_within ?k_is_within ?a_is_place ?l_is_place ?c_is_place ?k_is_place ?a_power_of ?l_power_of ?c_power_of ?k_power_of ?a_is_number ?l_is_number ?c_is_number ?k_is_number ?a_has_few_digits ?l_has_few_digits ?c_has_few_digits ?k_has_few_digits ?a_is_sequence ?l_is_sequence ?c_is_sequence ?k_is_sequence ?a_wrong_run ?l_wrong_run ?c_wrong_run ?k_wrong_run ?a_is_run ?l_is_run ?c_is_run ?k_is_run ?a_is_pair ?l_is_pair ?c_is_pair ?k_is_pair ?a_parse_number ?l_parse_number ?c_parse_number ?k_parse_number ?a_parse_state ?l_parse_state ?c_parse_state ?k_parse_state ?a_parse_effect ?l_parse_effect ?c_parse_effect ?k_parse_effect ?a_parse_sequence ?l_parse_sequence ?c_parse_sequence ?k_parse_sequence ?a_parse_pair ?l_parse_pair ?c_parse_pair ?k_parse_pair ?a_pair_in ?l_pair_in ?c_pair_in ?k_pair_in ?a_number_in ?l_number_in ?c_number_in ?k_number_in ?a_sequence_in ?l_sequence_in ?c_sequence_in ?k_sequence_in ?a_run_in ?l_run_in ?c_run_in ?k_run_in ?a_integer_in ?l_integer_in ?c_integer_in ?k_integer_in ?a_law_numbers ?l_law_numbers ?c_law_numbers ?k_law_numbers ?a_law_form ?l_law_form ?c_law_form ?k_law_form ?a_law_base ?l_law_base ?c_law_base ?k_law_base ?a_law_integer ?l_law_integer ?c_law_integer ?k_law_integer ?a_law_number ?l_law_number ?c_law_number ?k_law_number ?a_law_runs ?l_law_runs ?c_law_runs ?k_law_runs ?a_law_integer_of ?l_law_integer_of ?c_law_integer_of ?k_law_integer_of ?a_law_number_of ?l_law_number_of ?c_law_number_of ?k_law_number_of ?a_law_pair_of ?l_law_pair_of ?c_law_pair_of ?k_law_pair_of ?a_law_runs_of ?l_law_runs_of ?c_law_runs_of ?k_law_runs_of ?a_law_got ?l_law_got ?c_law_got ?k_law_got ?a_law_want ?l_law_want ?c_law_want ?k_law_want ?a_law_altered ?l_law_altered ?c_law_altered ?k_law_altered ?a_law ?l_law ?c_law ?k_law ?a_InvalidNumber ?x_InvalidNumber ?xt_InvalidNumber ?ov_InvalidNumber ?sa_InvalidNumber ?ga_InvalidNumber ?gg_InvalidNumber ?nn_InvalidNumber ?ii_InvalidNumber ?cc_InvalidNumber ?ti_InvalidNumber ?kc_InvalidNumber ?ex_InvalidNumber ?tc_InvalidNumber ?hd_InvalidNumber ?te_InvalidNumber ?cn_InvalidNumber ?ct_InvalidNumber ?cm_InvalidNumber ?li_InvalidNumber ?ci_InvalidNumber ?a_InvalidText ?x_InvalidText ?xt_InvalidText ?ov_InvalidText ?sa_InvalidText ?ga_InvalidText ?gg_InvalidText ?nn_InvalidText ?ii_InvalidText ?cc_InvalidText ?ti_InvalidText ?kc_InvalidText ?ex_InvalidText ?tc_InvalidText ?hd_InvalidText ?te_InvalidText ?cn_InvalidText ?ct_InvalidText ?cm_InvalidText ?li_InvalidText ?ci_InvalidText ?a_HeadError ?n_MAX_PLACE ?n_MAX_DIGITS ?a_OPERATIONS ?l_OPERATIONS ?n_DIGITS ?n_PIECE ?z_abs ?z_all ?z_bool ?z_enumerate ?z_int ?z_isinstance ?z_len ?z_list ?z_max ?z_range ?z_repr ?z_str ?z_tuple ?x_kit_InvalidText_HeadError ?x_kit_InvalidText_InvalidNumber ?x_exm_InvalidNumber_InvalidText
    (case a_is_whole => first | k_is | rfl | decide +kernel)
    (case l_is_whole => first | k_is | rfl | decide +kernel)
    (case c_is_whole => first | k_is | rfl | decide +kernel)
    (case k_is_whole => first | k_is | rfl | decide +kernel)
    (case a_is_within => first | k_is | rfl | decide +kernel)
    (case l_is_within => first | k_is | rfl | decide +kernel)
    (case c_is_within => first | k_is | rfl | decide +kernel)
    (case k_is_within => first | k_is | rfl | decide +kernel)
    (case a_is_place => first | k_is | rfl | decide +kernel)
    (case l_is_place => first | k_is | rfl | decide +kernel)
    (case c_is_place => first | k_is | rfl | decide +kernel)
    (case k_is_place => first | k_is | rfl | decide +kernel)
    (case a_power_of => first | k_is | rfl | decide +kernel)
    (case l_power_of => first | k_is | rfl | decide +kernel)
    (case c_power_of => first | k_is | rfl | decide +kernel)
    (case k_power_of => first | k_is | rfl | decide +kernel)
    (case a_is_number => first | k_is | rfl | decide +kernel)
    (case l_is_number => first | k_is | rfl | decide +kernel)
    (case c_is_number => first | k_is | rfl | decide +kernel)
    (case k_is_number => first | k_is | rfl | decide +kernel)
    (case a_has_few_digits => first | k_is | rfl | decide +kernel)
    (case l_has_few_digits => first | k_is | rfl | decide +kernel)
    (case c_has_few_digits => first | k_is | rfl | decide +kernel)
    (case k_has_few_digits => first | k_is | rfl | decide +kernel)
    (case a_is_sequence => first | k_is | rfl | decide +kernel)
    (case l_is_sequence => first | k_is | rfl | decide +kernel)
    (case c_is_sequence => first | k_is | rfl | decide +kernel)
    (case k_is_sequence => first | k_is | rfl | decide +kernel)
    (case a_wrong_run => first | k_is | rfl | decide +kernel)
    (case l_wrong_run => first | k_is | rfl | decide +kernel)
    (case c_wrong_run => first | k_is | rfl | decide +kernel)
    (case k_wrong_run => first | k_is | rfl | decide +kernel)
    (case a_is_run => first | k_is | rfl | decide +kernel)
    (case l_is_run => first | k_is | rfl | decide +kernel)
    (case c_is_run => first | k_is | rfl | decide +kernel)
    (case k_is_run => first | k_is | rfl | decide +kernel)
    (case a_is_pair => first | k_is | rfl | decide +kernel)
    (case l_is_pair => first | k_is | rfl | decide +kernel)
    (case c_is_pair => first | k_is | rfl | decide +kernel)
    (case k_is_pair => first | k_is | rfl | decide +kernel)
    (case a_parse_number => first | k_is | rfl | decide +kernel)
    (case l_parse_number => first | k_is | rfl | decide +kernel)
    (case c_parse_number => first | k_is | rfl | decide +kernel)
    (case k_parse_number => first | k_is | rfl | decide +kernel)
    (case a_parse_state => first | k_is | rfl | decide +kernel)
    (case l_parse_state => first | k_is | rfl | decide +kernel)
    (case c_parse_state => first | k_is | rfl | decide +kernel)
    (case k_parse_state => first | k_is | rfl | decide +kernel)
    (case a_parse_effect => first | k_is | rfl | decide +kernel)
    (case l_parse_effect => first | k_is | rfl | decide +kernel)
    (case c_parse_effect => first | k_is | rfl | decide +kernel)
    (case k_parse_effect => first | k_is | rfl | decide +kernel)
    (case a_parse_sequence => first | k_is | rfl | decide +kernel)
    (case l_parse_sequence => first | k_is | rfl | decide +kernel)
    (case c_parse_sequence => first | k_is | rfl | decide +kernel)
    (case k_parse_sequence => first | k_is | rfl | decide +kernel)
    (case a_parse_pair => first | k_is | rfl | decide +kernel)
    (case l_parse_pair => first | k_is | rfl | decide +kernel)
    (case c_parse_pair => first | k_is | rfl | decide +kernel)
    (case k_parse_pair => first | k_is | rfl | decide +kernel)
    (case a_pair_in => first | k_is | rfl | decide +kernel)
    (case l_pair_in => first | k_is | rfl | decide +kernel)
    (case c_pair_in => first | k_is | rfl | decide +kernel)
    (case k_pair_in => first | k_is | rfl | decide +kernel)
    (case a_number_in => first | k_is | rfl | decide +kernel)
    (case l_number_in => first | k_is | rfl | decide +kernel)
    (case c_number_in => first | k_is | rfl | decide +kernel)
    (case k_number_in => first | k_is | rfl | decide +kernel)
    (case a_sequence_in => first | k_is | rfl | decide +kernel)
    (case l_sequence_in => first | k_is | rfl | decide +kernel)
    (case c_sequence_in => first | k_is | rfl | decide +kernel)
    (case k_sequence_in => first | k_is | rfl | decide +kernel)
    (case a_run_in => first | k_is | rfl | decide +kernel)
    (case l_run_in => first | k_is | rfl | decide +kernel)
    (case c_run_in => first | k_is | rfl | decide +kernel)
    (case k_run_in => first | k_is | rfl | decide +kernel)
    (case a_integer_in => first | k_is | rfl | decide +kernel)
    (case l_integer_in => first | k_is | rfl | decide +kernel)
    (case c_integer_in => first | k_is | rfl | decide +kernel)
    (case k_integer_in => first | k_is | rfl | decide +kernel)
    (case a_law_numbers => first | k_is | rfl | decide +kernel)
    (case l_law_numbers => first | k_is | rfl | decide +kernel)
    (case c_law_numbers => first | k_is | rfl | decide +kernel)
    (case k_law_numbers => first | k_is | rfl | decide +kernel)
    (case a_law_form => first | k_is | rfl | decide +kernel)
    (case l_law_form => first | k_is | rfl | decide +kernel)
    (case c_law_form => first | k_is | rfl | decide +kernel)
    (case k_law_form => first | k_is | rfl | decide +kernel)
    (case a_law_base => first | k_is | rfl | decide +kernel)
    (case l_law_base => first | k_is | rfl | decide +kernel)
    (case c_law_base => first | k_is | rfl | decide +kernel)
    (case k_law_base => first | k_is | rfl | decide +kernel)
    (case a_law_integer => first | k_is | rfl | decide +kernel)
    (case l_law_integer => first | k_is | rfl | decide +kernel)
    (case c_law_integer => first | k_is | rfl | decide +kernel)
    (case k_law_integer => first | k_is | rfl | decide +kernel)
    (case a_law_number => first | k_is | rfl | decide +kernel)
    (case l_law_number => first | k_is | rfl | decide +kernel)
    (case c_law_number => first | k_is | rfl | decide +kernel)
    (case k_law_number => first | k_is | rfl | decide +kernel)
    (case a_law_runs => first | k_is | rfl | decide +kernel)
    (case l_law_runs => first | k_is | rfl | decide +kernel)
    (case c_law_runs => first | k_is | rfl | decide +kernel)
    (case k_law_runs => first | k_is | rfl | decide +kernel)
    (case a_law_integer_of => first | k_is | rfl | decide +kernel)
    (case l_law_integer_of => first | k_is | rfl | decide +kernel)
    (case c_law_integer_of => first | k_is | rfl | decide +kernel)
    (case k_law_integer_of => first | k_is | rfl | decide +kernel)
    (case a_law_number_of => first | k_is | rfl | decide +kernel)
    (case l_law_number_of => first | k_is | rfl | decide +kernel)
    (case c_law_number_of => first | k_is | rfl | decide +kernel)
    (case k_law_number_of => first | k_is | rfl | decide +kernel)
    (case a_law_pair_of => first | k_is | rfl | decide +kernel)
    (case l_law_pair_of => first | k_is | rfl | decide +kernel)
    (case c_law_pair_of => first | k_is | rfl | decide +kernel)
    (case k_law_pair_of => first | k_is | rfl | decide +kernel)
    (case a_law_runs_of => first | k_is | rfl | decide +kernel)
    (case l_law_runs_of => first | k_is | rfl | decide +kernel)
    (case c_law_runs_of => first | k_is | rfl | decide +kernel)
    (case k_law_runs_of => first | k_is | rfl | decide +kernel)
    (case a_law_got => first | k_is | rfl | decide +kernel)
    (case l_law_got => first | k_is | rfl | decide +kernel)
    (case c_law_got => first | k_is | rfl | decide +kernel)
    (case k_law_got => first | k_is | rfl | decide +kernel)
    (case a_law_want => first | k_is | rfl | decide +kernel)
    (case l_law_want => first | k_is | rfl | decide +kernel)
    (case c_law_want => first | k_is | rfl | decide +kernel)
    (case k_law_want => first | k_is | rfl | decide +kernel)
    (case a_law_altered => first | k_is | rfl | decide +kernel)
    (case l_law_altered => first | k_is | rfl | decide +kernel)
    (case c_law_altered => first | k_is | rfl | decide +kernel)
    (case k_law_altered => first | k_is | rfl | decide +kernel)
    (case a_law => first | k_is | rfl | decide +kernel)
    (case l_law => first | k_is | rfl | decide +kernel)
    (case c_law => first | k_is | rfl | decide +kernel)
    (case k_law => first | k_is | rfl | decide +kernel)
    (case a_InvalidNumber => first | k_is | rfl | decide +kernel)
    (case x_InvalidNumber => first | k_is | rfl | decide +kernel)
    (case xt_InvalidNumber => first | k_is | rfl | decide +kernel)
    (case ov_InvalidNumber => first | k_is | rfl | decide +kernel)
    (case sa_InvalidNumber => first | k_is | rfl | decide +kernel)
    (case ga_InvalidNumber => first | k_is | rfl | decide +kernel)
    (case gg_InvalidNumber => first | k_is | rfl | decide +kernel)
    (case nn_InvalidNumber => first | k_is | rfl | decide +kernel)
    (case ii_InvalidNumber => first | k_is | rfl | decide +kernel)
    (case cc_InvalidNumber => first | k_is | rfl | decide +kernel)
    (case ti_InvalidNumber => first | k_is | rfl | decide +kernel)
    (case kc_InvalidNumber => first | k_is | rfl | decide +kernel)
    (case ex_InvalidNumber => first | k_is | rfl | decide +kernel)
    (case tc_InvalidNumber => first | k_is | rfl | decide +kernel)
    (case hd_InvalidNumber => first | k_is | rfl | decide +kernel)
    (case te_InvalidNumber => first | k_is | rfl | decide +kernel)
    (case cn_InvalidNumber => first | k_is | rfl | decide +kernel)
    (case ct_InvalidNumber => first | k_is | rfl | decide +kernel)
    (case cm_InvalidNumber => first | k_is | rfl | decide +kernel)
    (case li_InvalidNumber => first | k_is | rfl | decide +kernel)
    (case ci_InvalidNumber => first | k_is | rfl | decide +kernel)
    (case a_InvalidText => first | k_is | rfl | decide +kernel)
    (case x_InvalidText => first | k_is | rfl | decide +kernel)
    (case xt_InvalidText => first | k_is | rfl | decide +kernel)
    (case ov_InvalidText => first | k_is | rfl | decide +kernel)
    (case sa_InvalidText => first | k_is | rfl | decide +kernel)
    (case ga_InvalidText => first | k_is | rfl | decide +kernel)
    (case gg_InvalidText => first | k_is | rfl | decide +kernel)
    (case nn_InvalidText => first | k_is | rfl | decide +kernel)
    (case ii_InvalidText => first | k_is | rfl | decide +kernel)
    (case cc_InvalidText => first | k_is | rfl | decide +kernel)
    (case ti_InvalidText => first | k_is | rfl | decide +kernel)
    (case kc_InvalidText => first | k_is | rfl | decide +kernel)
    (case ex_InvalidText => first | k_is | rfl | decide +kernel)
    (case tc_InvalidText => first | k_is | rfl | decide +kernel)
    (case hd_InvalidText => first | k_is | rfl | decide +kernel)
    (case te_InvalidText => first | k_is | rfl | decide +kernel)
    (case cn_InvalidText => first | k_is | rfl | decide +kernel)
    (case ct_InvalidText => first | k_is | rfl | decide +kernel)
    (case cm_InvalidText => first | k_is | rfl | decide +kernel)
    (case li_InvalidText => first | k_is | rfl | decide +kernel)
    (case ci_InvalidText => first | k_is | rfl | decide +kernel)
    (case a_HeadError => first | k_is | rfl | decide +kernel)
    (case n_MAX_PLACE => first | k_is | rfl | decide +kernel)
    (case n_MAX_DIGITS => first | k_is | rfl | decide +kernel)
    (case a_OPERATIONS => first | k_is | rfl | decide +kernel)
    (case l_OPERATIONS => first | k_is | rfl | decide +kernel)
    (case n_DIGITS => first | k_is | rfl | decide +kernel)
    (case n_PIECE => first | k_is | rfl | decide +kernel)
    (case z_abs => first | k_is | rfl | decide +kernel)
    (case z_all => first | k_is | rfl | decide +kernel)
    (case z_bool => first | k_is | rfl | decide +kernel)
    (case z_enumerate => first | k_is | rfl | decide +kernel)
    (case z_int => first | k_is | rfl | decide +kernel)
    (case z_isinstance => first | k_is | rfl | decide +kernel)
    (case z_len => first | k_is | rfl | decide +kernel)
    (case z_list => first | k_is | rfl | decide +kernel)
    (case z_max => first | k_is | rfl | decide +kernel)
    (case z_range => first | k_is | rfl | decide +kernel)
    (case z_repr => first | k_is | rfl | decide +kernel)
    (case z_str => first | k_is | rfl | decide +kernel)
    (case z_tuple => first | k_is | rfl | decide +kernel)
    (case x_kit_InvalidText_HeadError => first | k_is | rfl | decide +kernel)
    (case x_kit_InvalidText_InvalidNumber => first | k_is | rfl | decide +kernel)
    (case x_exm_InvalidNumber_InvalidText => first | k_is | rfl | decide +kernel)
