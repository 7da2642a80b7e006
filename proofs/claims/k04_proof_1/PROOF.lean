import PyProof.Rows.All
import Wide.All
import OpenK.AllK
import Wide.FinOn
import HandS.ForMost
import HandS.Exc
import HandS.ExcOwn
import PyProof.ReprRoads
import HandS.ExcInit
import HandS.ExcField
import HandS.IsInst
import KE.KExcIs
import KE.KTypeName
import HandS.TryOnly
import HandS.ExcCtx
import HandS.HotCalls
import HandS.Comp
import PyProof.StrLawsRepr
import PyProof.FitsInt
import HandS.Deep
import HandS.Wide
import HandS.WordsExc
import HandS.More
import HandS.HeadHook3
import PyProof.P3In
import PyProof.Rows.IntBool
import HandS.Conv
import HandS.Sort
import HandS.SortInts
import HandS.DictComp
import KE.KDictSum
import HandS.WordsDict
import HandS.Defaults
import HandS.List
import HandS.Dict
import HandS.Text
import HandS.Codes
import HandS.Zip
import HandS.Words
import HandS.Replace
import HandS.FStr
import HandS.Style
import PySem.Challenge.RW_nevercrossed_k04_figures_refused
set_option Elab.async false
set_option linter.all false
set_option maxRecDepth 100000
set_option maxHeartbeats 4000000
/-! Calls made where no value is being shown (so that repr may be asked), and the end of a law for such defs. -/
namespace Nv
open PySem PySem.Spec PyProof.Rows L2

structure FnG (P : Program) (w : World) (K : PySem.W.Frag) (mg : Str → Option Value) (base : Heap) (k : Nat) (f : Addr) (fd : FuncData) (ps : List Str) (sp : Sp) : Prop where
  many : ∀ vs H Q E, sp vs H Q E → vs.length = ps.length
  does : ∀ (A : Around) (outer : List Env) (s : Shared) (H : Hp) (ar : Args) (us : List Value) (vs : List V) (Q : VK) (E : XK),
    A.guards = some [] → Room k A → Env0 P w K mg base A outer s H → BindsTo s fd ar (ps.zip us) → Vals vs us → sp vs H Q E →
    codeAny (model P w) A (.call (.ref f) ar) (CR CX0 outer P w H s Q E) s

theorem all_kinds {N ps : List Str} {sc : Scope} (S : FnScope N ps sc) (us : List Value) :
    ((ps.zip us).all fun y => sc.names.lookup y.1 == some .local || sc.names.lookup y.1 == some .cell) = true := by
  rw [List.all_eq_true]
  rintro ⟨x, v⟩ hy
  rcases S.par x (List.of_mem_zip hy).1 with q | q <;> simp [q]

section
variable {P : Program} {w : World} {K : PySem.W.Frag} {mg : Str → Option Value} {base : Heap}
theorem FnG.made {x qual : Str} {st : Stmt} {f : Addr} {fd : FuncData} {N ps : List Str} {k : Nat} {sp : Sp} (F : Fun K x qual st f fd) (S : FnScope N ps (defScope st))
    (many : ∀ vs H Q E, sp vs H Q E → vs.length = ps.length)
    (body : ∀ (cdv : Value) (A : Around) (outer : List Env) (s : Shared) (H : Hp) (vs : List V) (Q : VK) (E : XK), A.guards = some [] →
      Room k (A.deeper (envOfC qual (defScope st) s.heap.objs.size f cdv)) → sp vs H Q E →
      ∃ t, PSs (cxOf CX0 P w K mg base N qual (defScope st) f cdv A outer s H E).nox (defBody st) t ∧ t { nx := fun _ H' => Q .non H', rt := Q } (start N vs) H) :
    FnG P w K mg base (k + 1) f fd ps sp := by
  obtain ⟨oc, od, kV, doc, pm, an, cdv, ct, osl, rfl, lk, hcd⟩ := F.ex
  constructor
  · exact many
  intro A outer s H ar us vs Q E gd room env hb rel want
  obtain ⟨t, der, hq⟩ := body cdv A outer s H vs Q E gd (room.deeper _) want
  have inK : K.In s.heap := env.mod.kin.keeps fun b o z => (env.bs b o z).1
  have nolim : s.heap.NoLimit := env.mod.nolimit.keeps fun b o z => (env.bs b o z).1
  refine Att.call_fn inK nolim lk hcd room.depth hb (all_kinds S us) (fun s1 ic => ?_) S.co S.gen S.kind
  have J := inv_start (CX := CX0) (E := E) (N := N) S room.hd env (many _ _ _ _ want) rel ic
  refine wpAny_mono (der.nox.run [] s1 _ H _ J hq) ?_ fun _ _ z => z
  rintro (_ | _ | _ | u) s' z
  · obtain ⟨σ', H', J', q⟩ := z
    exact ⟨.non, H', J'.os, J'.bare, J'.base, J'.hok, rfl, q⟩
  · obtain ⟨_, _, _, q⟩ := z
    exact q.elim
  · obtain ⟨_, _, _, q⟩ := z
    exact q.elim
  · obtain ⟨v, σ', H', J', r, q⟩ := z
    exact ⟨v, H', J'.os, J'.bare, J'.base, J'.hok, r, q⟩
end

section
variable {X : Cx} {k : Nat} {f : Addr} {fd : FuncData} {ps : List Str} {sp : Sp} {x : Str} {p pos : Pos} {e : Expr} {es : List Expr} {t : TA}
/-- x(e, ..), nothing raised -/
theorem pe_callG (F : FnG X.prog X.w X.K X.mg X.base k f fd ps sp) (gd : X.A.guards = some []) (hr : Room k X.A) (hg : Gl X x) (hm : X.mg x = some (.ref f)) (hk : PySem.W.keepIn X.K (.ref f) = true)
    (hb : Binds X.K fd ps []) (ha : PA X (e :: es) t) (hdb : (x == ("__debug__" : Str)) = false := by decide)
    (he : starEach (e :: es) X.env = (false, eval e X.env) :: starEach es X.env := by rfl) (hpl : (backTo pos (starEach es X.env)).any (·.1) = false := by rfl) :
    PE X (.Call (.Name x p) (e :: es) [] pos) (tCall sp [] E0 t) := by
  constructor
  intro pins s σ H Q I h
  refine wpAny_Call_Name_kw (ld_glob I hg hm (PySem.W.callWith_K (h₀ := X.base) I.ok.mod.kin hk (thn (ha.run pos pins s σ H _ I h) ?_) he hpl) hdb)
  rintro us s1 ⟨vs, H1, I1, r, q⟩
  rw [List.append_nil] at q
  have lu : (us ++ ([] : List Value)).length = ps.length := by rw [List.append_nil, ← r.length]; exact F.many _ _ _ _ q
  have b := hb s1 us I1.kIn lu
  rw [List.append_nil] at b
  refine ⟨I1.kIn, wpAny_call (codeAny_mono (F.does X.A X.stack s1 H1 ⟨us, []⟩ us vs Q E0 gd hr I1.env0 b r q) ?_)⟩
  rintro (z | (_ | _ | _ | u)) s2 hz
  · exact hz.elim
  · exact hz.elim
  · exact hz.elim
  · exact hz.elim
  · exact I1.after hz
end
end Nv
set_option Elab.async false
set_option linter.all false
set_option maxRecDepth 100000
set_option maxHeartbeats 4000000
/-! The end of a law whose def shows values. -/
namespace Nv
open PySem PySem.Spec PyProof.Rows L2

section
variable {P : Program} {w : World} {K : PySem.W.Frag} {mg mb : Str → Option Value} {k : Nat} {fa a : Addr} {fd : FuncData} {x : Str} {sp : Sp} {s1 : Shared} {vs : List Value} {ns : List Int}
/-- nothing is tracked, or the script alone -/
structure Alone (s1 : Shared) (a : Addr) (vs : List Value) (ns : List Int) (H : Hp) : Prop where
  one : ∀ b u, H b = some u → b = a ∧ u = .frz { cls := .type "list", data := .seq vs.toArray } (.lst (ns.map V.int))
theorem Alone.dict_free {H : Hp} (z : Alone s1 a vs ns H) (ha : s1.heap.get? a = some { cls := .type "list", data := .seq vs.toArray }) {b : Addr} {o : Obj} {es : Array DictEntry} {ep : Nat} (e : s1.heap.get? b = some o) (d : o.data = .dict es ep) : H b = none := by
  cases q : H b with
  | none => rfl
  | some u =>
    have eb := (z.one b u q).1
    rw [eb, ha] at e
    cases e
    exact nomatch d
theorem Alone.ns_kept {H : Hp} (z : Alone s1 a vs ns H) (ha : s1.heap.get? a = some { cls := .type "list", data := .seq vs.toArray }) {b : Addr} {m : Str → Option Value} : s1.heap.Ns b m → (hidT s1.heap H).Ns b m := by
  rintro ⟨o, es, ep, e, d, r⟩
  exact ⟨o, es, ep, hidT_get e (z.dict_free ha e d), d, r⟩
theorem end_of (KX : K.In s1.heap) (hns : s1.heap.Ns mainGlobals mg) (hb : s1.heap.Ns builtinsNs mb) (hbb : ∀ x : Str, x ≠ "__name__" → mb x = bootBuiltins x) (hlim : s1.heap.NoLimit) (hg : s1.gens = #[])
    (ha : s1.heap.get? a = some { cls := .type "list", data := .seq vs.toArray }) (hr : Room k callerA)
    (F : ∀ base : Heap, K.In base → base.Ns mainGlobals mg → FnG P w K mg base k fa fd [x] sp) (hbind : ∀ (s : Shared) (u : Value), BindsTo s fd ⟨[u], []⟩ [(x, u)])
    {H : Hp} (z : Alone s1 a vs ns H) (nk : ∀ b u, H b = some u → K.lookup b = none) (hok : HOk P w H s1.heap) (want : sp [.ref a] H (fun v _ => v = .bl true) E0) :
    codeAny (model P w) callerA (.call (.ref fa) ⟨[.ref a], []⟩) (fun r s' => r = .ok (.ret (.bool true)) ∧ OldK s1.heap s'.heap ∧ s'.os = s1.os ∧ AllBare s'.gens) s1 := by
  have kb : K.In (hidT s1.heap H) := by
    intro b o e
    refine hidT_get (KX b o e) ?_
    cases q : H b with
    | none => rfl
    | some u =>
      rw [nk b u q] at e
      cases e
  obtain ⟨ml, l1, l2⟩ := hlim
  have md : Mod K mg (hidT s1.heap H) := { kin := kb, glob := z.ns_kept ha hns, blt := ⟨mb, z.ns_kept ha hb, hbb⟩, nolimit := ⟨ml, z.ns_kept ha l1, l2⟩ }
  have env : Env0 P w K mg (hidT s1.heap H) callerA [] s1 H := { frames := rfl, mod := md, bs := fun _ _ e => of_hidT e, bsz := Nat.le_of_eq (hidT_size _ _), funs := trivial, frf := fun b h => (List.not_mem_nil h).elim, hok := hok, bare := .of_eq hg }
  refine codeAny_mono ((F _ kb (z.ns_kept ha hns)).does callerA [] s1 H ⟨[.ref a], []⟩ [.ref a] [.ref a] _ E0 rfl hr env (hbind s1 (.ref a)) (.cons rfl .nil) want) ?_
  rintro (e | (_ | _ | _ | u)) s' h
  · exact h.elim
  · exact h.elim
  · exact h.elim
  · exact h.elim
  obtain ⟨v, H', os, bare, un, hok', rv, q⟩ := h
  subst q
  cases (show u = Value.bool true from rv)
  refine ⟨rfl, OldK.of_keep fun b o e => ?_, os, bare⟩
  cases q : H b with
  | none => exact un.keep b o e q List.not_mem_nil List.not_mem_nil
  | some t =>
    have et := (z.one b t q).2
    subst et
    have e1 := (hok b _ q).1
    rw [e] at e1
    cases e1
    exact (hok' b _ (un.frzs b _ _ q)).1
theorem law_endG (KX : K.In s1.heap) (hns : s1.heap.Ns mainGlobals mg) (hb : s1.heap.Ns builtinsNs mb) (hbb : ∀ x : Str, x ≠ "__name__" → mb x = bootBuiltins x) (hlim : s1.heap.NoLimit) (hg : s1.gens = #[])
    (ha : s1.heap.get? a = some { cls := .type "list", data := .seq vs.toArray }) (hi : IntsAre vs ns) (hl : ns.length ≤ sizeLine) (hr : Room k callerA)
    (F : ∀ base : Heap, K.In base → base.Ns mainGlobals mg → FnG P w K mg base k fa fd [x] sp) (hbind : ∀ (s : Shared) (u : Value), BindsTo s fd ⟨[u], []⟩ [(x, u)])
    (want : ∀ H : Hp, SqL K H a (ns.map V.int) → sp [.ref a] H (fun v _ => v = .bl true) E0) :
    codeAny (model P w) callerA (.call (.ref fa) ⟨[.ref a], []⟩) (fun r s' => r = .ok (.ret (.bool true)) ∧ OldK s1.heap s'.heap ∧ s'.os = s1.os ∧ AllBare s'.gens) s1 := by
  have rv := vals_ints hi
  by_cases hk : ∃ o, K.lookup a = some o
  · obtain ⟨o, hk⟩ := hk
    have eo : o = { cls := .type "list", data := .seq vs.toArray } := by
      have z := KX a o hk
      rw [ha] at z
      exact (Option.some.inj z).symm
    subst eo
    refine end_of (ns := ns) KX hns hb hbb hlim hg ha hr F hbind (H := fun _ => none) ⟨fun _ _ z => nomatch z⟩ (fun _ _ z => nomatch z) (fun _ _ z => nomatch z) (want _ (.inr ?_))
    exact ⟨_, vs.toArray, _, hk, rfl, rfl, rfl, by rw [List.size_toArray, hi.length]; exact hl, by simpa using rv⟩
  · have nk : K.lookup a = none := by
      cases q : K.lookup a with
      | none => rfl
      | some o => exact (hk ⟨o, q⟩).elim
    let H : Hp := fun b => if b = a then some (.frz { cls := .type "list", data := .seq vs.toArray } (.lst (ns.map V.int))) else none
    have at_a : H a = some (.frz { cls := .type "list", data := .seq vs.toArray } (.lst (ns.map V.int))) := if_pos rfl
    have al : Alone s1 a vs ns H := ⟨fun b u q => by
      by_cases eb : b = a
      · subst eb
        rw [at_a] at q
        exact ⟨rfl, (Option.some.inj q).symm⟩
      · rw [show H b = none from if_neg eb] at q
        cases q⟩
    refine end_of KX hns hb hbb hlim hg ha hr F hbind al (fun b u q => by rw [(al.one b u q).1]; exact nk) (fun b u q => ?_) (want H (.inl (.inr ⟨_, at_a⟩)))
    obtain ⟨rfl, rfl⟩ := al.one b u q
    exact ⟨ha, by rw [List.length_map]; exact hl, vs, _, rv, ha⟩
end

/-- the goal that the head leaves -/
theorem walkG {l : PySem.W.OpenLaw} {n k : Nat} {q : Program} {loose : List Str} {XP : (Str → Option Value) → Heap → Prop} {YP : World → Heap → Prop} {d : DefRec} {K : Params → PySem.W.Frag} {sp : PySem.W.Frag → Sp} {x : Str}
    (hn : l.most = some n) (hn2 : n ≤ sizeLine) (hdf : d.params.defaults = []) (hr : Room k callerA) (hY : ∀ (w : World) (h : Heap), YP w h → (K w.params).In h)
    (F : ∀ (w : World) (mg : Str → Option Value) (fa : Addr) (h : Heap), (K w.params).In h → h.Ns mainGlobals mg → mg d.name = some (.ref fa) →
      ∃ fd : FuncData, (∀ (s : Shared) (u : Value), BindsTo s fd ⟨[u], []⟩ [(x, u)]) ∧
        ∀ base : Heap, (K w.params).In base → base.Ns mainGlobals mg → FnG l.prog w (K w.params) mg base k fa fd [x] (sp (K w.params)))
    (want : ∀ (K : PySem.W.Frag) (H : Hp) (a : Addr) (ns : List Int), ns.length ≤ n → SqL K H a (ns.map V.int) → sp K [.ref a] H (fun v _ => v = .bl true) E0) :
    PySem.W.WalkO q loose XP YP l.row.toRowW d [] (fun f vs => PySem.call f vs) := by
  refine Att.attach_call hn hdf ?_
  intro w s₀ s₁ mg mb fa o pm cd doc a vs ns G Y _ _ _ hmg hobj hints hlen hg
  obtain ⟨fd, hb, hF⟩ := F w mg fa _ (hY w _ Y) G.T.g hmg
  exact law_endG (hY w _ Y) G.T.g G.T.b G.T.builtins G.T.nolimit hg hobj hints (Nat.le_trans hlen hn2) hr hF hb (fun H hS => want _ H a ns hlen hS)
end Nv
set_option Elab.async false
set_option linter.all false
set_option maxRecDepth 100000
set_option maxHeartbeats 4000000
/-! Data of any depth over the abstract heap; repr of them. -/
namespace Nv
open PySem PySem.Spec PyProof.Rows L2

mutual
/-- v is the datum d -/
inductive DV (H : Hp) : V → PyData → Prop
  | non : DV H .non .none
  | bl (b : Bool) : DV H (.bl b) (.bool b)
  | int (i : Int) : DV H (.int i) (.int i)
  | str (x : Str) : DV H (.str x) (.str x)
  | lst {a : Addr} {xs : List V} {ds : List PyData} (h : H a = some (.lst xs)) (r : DVs H xs ds) : DV H (.ref a) (.list ds)
  | tup {a : Addr} {xs : List V} {ds : List PyData} (h : H a = some (.tup xs)) (r : DVs H xs ds) : DV H (.ref a) (.tuple ds)
  | emp {a : Addr} (h : H a = some (.dK [])) : DV H (.ref a) (.dict [])
inductive DVs (H : Hp) : List V → List PyData → Prop
  | nil : DVs H [] []
  | cons {x : V} {xs : List V} {d : PyData} {ds : List PyData} (h : DV H x d) (r : DVs H xs ds) : DVs H (x :: xs) (d :: ds)
end

mutual
theorem DV.more {H H' : Hp} (k : Same H H') : ∀ {v : V} {d : PyData}, DV H v d → DV H' v d
  | _, _, .non => .non
  | _, _, .bl b => .bl b
  | _, _, .int i => .int i
  | _, _, .str x => .str x
  | _, _, .lst h r => .lst (k _ _ h) (r.more k)
  | _, _, .tup h r => .tup (k _ _ h) (r.more k)
  | _, _, .emp h => .emp (k _ _ h)
theorem DVs.more {H H' : Hp} (k : Same H H') : ∀ {vs : List V} {ds : List PyData}, DVs H vs ds → DVs H' vs ds
  | _, _, .nil => .nil
  | _, _, .cons h r => .cons (h.more k) (r.more k)
end

theorem DVs.length {H : Hp} : ∀ {vs : List V} {ds : List PyData}, DVs H vs ds → vs.length = ds.length
  | _, _, .nil => rfl
  | _, _, .cons _ r => by rw [List.length_cons, List.length_cons, r.length]
theorem DVs.at {H : Hp} : ∀ {vs : List V} {ds : List PyData}, DVs H vs ds → ∀ (i : Nat) (v : V), vs[i]? = some v → ∃ d, ds[i]? = some d ∧ DV H v d
  | _, _, .cons h r, 0, v, e => ⟨_, rfl, by cases e; exact h⟩
  | _, _, .cons h r, i + 1, v, e => r.at i v (by simpa using e)

theorem emp_reads {P : Program} {w : World} {H : Hp} {h : Heap} {a : Addr} {u : Value} (ok : HOk P w H h) (h1 : H a = some (.dK [])) (r : RelV (.ref a) u) : Reads h u (.dict []) [a] ∧ sysModules ∉ [a] := by
  obtain ⟨_, ns, vs, kv, o, es, ep, e, hx, hd, _, hp, _⟩ := ok a _ h1
  cases kv
  have ez : es.toList = [] := List.length_eq_zero_iff.mp hp.length
  rw [show u = Value.ref a from r]
  refine ⟨.dict (kvs := []) (as := []) (bs := []) e hx.1 hd (by rw [ez]; exact .nil) (by rw [ez]; exact .nil), fun z => ?_⟩
  rw [List.mem_singleton] at z
  rw [← z] at ns
  simp at ns

mutual
theorem DV.reads {P : Program} {w : World} {H : Hp} {h : Heap} (ok : HOk P w H h) : ∀ {v : V} {d : PyData} {u : Value}, DV H v d → RelV v u → ∃ as, Reads h u d as
  | _, _, u, .non, r => ⟨[], by rw [show u = Value.none from r]; exact .none⟩
  | _, _, u, .bl b, r => ⟨[], by rw [show u = Value.bool b from r]; exact .bool b⟩
  | _, _, u, .int i, ⟨t, e⟩ => ⟨[], by rw [e]; exact .int i t⟩
  | _, _, u, .str x, ⟨t, e⟩ => ⟨[], by rw [e]; exact .str x t⟩
  | _, _, u, .lst (a := a) (xs := xs) h1 q, r => by
    obtain ⟨_, its, n, rv, e⟩ := ok a _ h1
    obtain ⟨as, ra⟩ := q.reads ok rv
    refine ⟨a :: as, ?_⟩
    rw [show u = Value.ref a from r]
    exact .list e rfl rfl (by simpa using ra)
  | _, _, u, .tup (a := a) (xs := xs) h1 q, r => by
    obtain ⟨_, its, rv, o, e, hc, n, hd⟩ := ok a _ h1
    obtain ⟨as, ra⟩ := q.reads ok rv
    refine ⟨as, ?_⟩
    rw [show u = Value.ref a from r]
    exact .tuple e hc hd (by simpa using ra)
  | _, _, u, .emp (a := a) h1, r => ⟨_, (emp_reads ok h1 r).1⟩
theorem DVs.reads {P : Program} {w : World} {H : Hp} {h : Heap} (ok : HOk P w H h) : ∀ {vs : List V} {ds : List PyData} {us : List Value}, DVs H vs ds → Vals vs us → ∃ as, ReadsAll h us ds as
  | _, _, _, .nil, .nil => ⟨[], .nil⟩
  | _, _, _, .cons h1 q, .cons r rs => by
    obtain ⟨as, ra⟩ := h1.reads ok r
    obtain ⟨bs, rb⟩ := q.reads ok rs
    exact ⟨as ++ bs, .cons ra rb⟩
end

/-- what repr may be asked of -/
structure Nice (d : PyData) : Prop where
  shows : d.showable = true
  deep : d.depth ≤ 60
  long : d.shown.length ≤ sizeLine
  dic : d.hasDict = true → d = .dict []

theorem call_reprD {X : Cx} (gd : X.A.guards = some []) (hu : X.A.units + 100 < cLine) :
    CallR X (.builtin "repr") (fun xs H Q => ∃ v d, xs = [v] ∧ DV H v d ∧ Nice d ∧ Q (.str d.shown) H) := by
  rintro pins s σ H xs us Q I r ⟨v, d, rfl, dv, nz, q⟩
  cases r with
  | cons r0 rr =>
    cases rr
    rename_i u
    have fin : ∀ (h' : Heap) (t : Tok) (tk : Nat), (∀ b o, s.heap.get? b = some o → h'.get? b = some o) → EP X pins σ Q (.str d.shown t) { s with heap := h', toks := tk } :=
      fun h' t tk k => ⟨.str d.shown, H, I.kept (t' := tk) k, ⟨t, rfl⟩, q⟩
    have viaRef : ∀ (a : Addr) (as : List Addr), u = .ref a → Reads s.heap u d as → (d.hasDict = true → sysModules ∉ as) → wpAny (model X.prog X.w) X.A (call (.builtin "repr") [u]) (EP X pins σ Q) X.xe s := by
      rintro a as rfl rd hs
      exact repr_of_reads' rd nz.shows hs gd (by have := nz.deep; omega) (fun _ _ e => e) (fun h' t tk k => fin h' t tk k) nz.long
    have leaf : EP X pins σ Q (.str d.shown s.toks) { s with heap := s.heap, toks := s.toks + 1 } := fin s.heap s.toks (s.toks + 1) fun _ _ e => e
    obtain ⟨as, rd⟩ := dv.reads I.hok r0
    cases dv with
    | non =>
      cases (show u = Value.none from r0)
      exact P.repr_of_none (by simpa only [PyData.shown] using leaf)
    | bl b =>
      cases (show u = Value.bool b from r0)
      exact P.repr_of_bool (by simpa only [PyData.shown] using leaf)
    | int i =>
      obtain ⟨t, rfl⟩ := r0
      exact P.repr_of_int (by simpa [PyData.showable] using nz.shows) (by simpa only [PyData.shown] using leaf)
    | str x =>
      obtain ⟨t, rfl⟩ := r0
      exact P.repr_of_str (by simpa only [PyData.shown] using leaf) (by simpa only [PyData.shown] using nz.long)
    | lst h1 q1 => exact viaRef _ _ r0 rd fun z => nomatch nz.dic z
    | tup h1 q1 => exact viaRef _ _ r0 rd fun z => nomatch nz.dic z
    | @emp a h1 =>
      have z := emp_reads I.hok h1 r0
      exact viaRef _ _ r0 z.1 fun _ => z.2
end Nv
set_option Elab.async false
set_option linter.all false
set_option maxRecDepth 100000
set_option maxHeartbeats 4000000
/-! self.__class__.__name__ of an exception of a class of the program. -/
namespace PySem.W
open PySem PySem.Calls PyProof.Rows PyProof.V PySem.Spec Builtin Builtin.ObjectAttr Builtin.Getset_descriptor
section
variable {prog : Program} {w : World} {A : Around} {E : Value → Shared → Prop} {s : Shared} {K : Frag} {x C : Addr} {ox : Obj} {od : Option Obj} {name : Str}

theorem nm_classE {expr : Bool} {gt : Option Value} {Q : Value → Shared → Prop} (X : K.In s.heap) (I : InstAt s.heap x ox C od) (hga : findIn K (.ref C) "__getattribute__" = some (some (.builtin "BaseException.__getattribute__"))) (hgt : findIn K (.ref C) "__getattr__" = some gt)
    (hsub : subIn K (.ref C) (.type "BaseException") = some true) (hf : findObj K C od "__class__" = some (.bind (.builtin "getset_descriptor.__get__") (.builtin "object.__class__"))) (hm : mroIn K C (.type "object") = some true)
    (h : Q (.ref C) { s with toks := s.toks + 1 }) : wpAny (model prog w) A (getAttr (.ref x) "__class__" expr) Q E s := by
  obtain ⟨hp, g, d, t, os⟩ := s
  have L0 := I.type (M := model prog w)
  have L1 := looks_findIn (M := model prog w) X hga
  have L2 := looks_findIn (M := model prog w) X hgt
  have L3 := looks_find (M := model prog w) X I hf
  have sub : Looks (model prog w) hp (isInstance (.ref x) (.type "BaseException")) true := L0.andThen (looks_subIn X hsub)
  have hx0 : (expr && onTheHeap (Value.builtin "BaseException.__getattribute__")) = false := by cases expr <;> rfl
  have hx2 : (Value.builtin "BaseException.__getattribute__" == Value.builtin "object.__getattribute__") = false := by decide +kernel
  have hx1 : (onTheHeap (Value.ref C) && Value.builtin "BaseException.__getattribute__" == Value.builtin "object.__getattribute__") = false := by rw [hx2]; rfl
  unfold getAttr getAttrBy
  refine wpAny_bind (wpAny_mkText (wpAny_holding (wpAny_bind (L0.at (wpAny_bind (L1.at ?_))))))
  show wpAny _ _ (if (onTheHeap (Value.ref C) && Value.builtin "BaseException.__getattribute__" == Value.builtin "object.__getattribute__") = true then _ else _) _ _ _
  rw [hx1, if_neg Bool.false_ne_true]
  unfold getAttrByItsOwn hookBefore
  refine wpAny_bind ?_
  rw [if_pos (show onTheHeap (Value.ref C) = true from rfl)]
  refine L2.at ?_
  refine wpAny_bind (wpAny_attempt (wpAny_holding ?_))
  unfold callGetattribute
  rw [hx0, if_neg Bool.false_ne_true]
  unfold boundAndCalled
  rw [PySem.F.excAttr_ValueError.ga.bind (.ref x)]
  refine wpAny_bind (wpAny_pure ?_)
  show wpAny _ _ (call (.builtin "BaseException.__getattribute__") [.ref x, .str "__class__" t]) _ _ _
  refine wpAny_call (codeAny_call_builtin PySem.F.excAttr_ValueError.ga.plain PySem.F.entry_bexc_ga ?_)
  refine @PySem.W.check_slot (model prog w) _ _ ⟨hp, g, d, t + 1, os⟩ "BaseException.__getattribute__" "BaseException" "__getattribute__" (.ref x) [.str "__class__" t] [] _ (by decide +kernel) (by decide +kernel) sub (PySem.F.args_bexc_ga (.ref x) (.str "__class__" t)) ?_
  unfold Builtin.«object.__getattribute__»
  refine wpAny_bind (wpAny_of_eq (a := ((Value.ref x : Value), [Value.str "__class__" t])) (by first | rfl | (simp only [slotArgs]; rfl)) ?_)
  refine wpAny_bind (wpAny_pure (wpAny_bind (L0.at (wpAny_bind (L3.at ?_)))))
  refine wpAny_bind (wpAny_holding (wpAny_call (class_get (s := ⟨hp, g, d, t + 1, os⟩) (ox := ox) (od := od) X I hm ?_)))
  refine wpAny_pure ?_
  show wpAny _ _ (handedOut (.ref C)) _ _ _
  rw [handedOut_of (show handedIn (.ref C) = true from rfl)]
  first | exact wpAny_pure h | exact wpAny_pure (wpAny_pure h)

theorem nm_dga (d tp : Value) (C : Addr) : descrGetArgs ⟨[d, .ref C, tp], []⟩ = pure (d, some (.ref C), given tp) := by kernel_rfl
/-- the text that a class keeps as its name -/
def nameIn (K : Frag) (C : Addr) : Option (Str × Tok) := match K.lookup C with
  | some o => (match o.slots[2]? with
    | some (some (Value.str x t)) => some (x, t)
    | _ => none)
  | none => none
theorem nm_slot {M : Model} {n : Str × Tok} {Q : Option Value → Shared → Prop} (X : K.In s.heap) (hn : nameIn K C = some n) (h : Q (some (.str n.1 n.2)) s) : wpAny M A (slotAt C 2) Q E s := by
  unfold nameIn at hn
  split at hn
  · rename_i o ho
    split at hn
    · rename_i x t hs
      cases hn
      unfold slotAt
      refine wpAny_bind (wpAny_loadPart (X _ _ ho) (wpAny_pure ?_))
      rw [hs]
      exact h
    · cases hn
  · cases hn
theorem nm_get {tp : Value} {n : Str × Tok} {R : Result → Shared → Prop} (X : K.In s.heap) (ht : Looks (model prog w) s.heap (typeOf (.ref C)) (.type "type")) (hn : nameIn K C = some n) (h : R (.ok (.ret (.str n.1 n.2))) s) :
    codeAny (model prog w) A (.call (.builtin "getset_descriptor.__get__") ⟨[.builtin "type.__name__", .ref C, tp], []⟩) R s := by
  obtain ⟨hh, g, dr, t, os⟩ := s
  have L0 := ht
  have L1 : Looks (model prog w) hh (isSubtype (.type "type") (.type "type")) true := Looks.of_pure (by rw [isSubtype_type]; kernel_rfl)
  refine codeAny_call_builtin KF.slot_gs.plain KF.entry_gs (KF.slot_gs.check _ _ _ _ _ _ _ _ ktyn_type (KF.args_gs _ _ _) ?_)
  unfold Builtin.«getset_descriptor.__get__» descrGet
  rw [nm_dga]
  refine wpAny_bind (wpAny_pure ?_)
  unfold descrGetter descrCheckInstance descrNameAndClass isInstance
  simp only [ktyn_owner]
  repeat lk
  refine ⟨Code.quiet_builtin _ (by decide +kernel), codeAny_builtin ktyn_entry ?_⟩
  unfold Builtin.«type.__name__» keptObject
  dsimp only
  refine wpAny_bind (nm_slot (K := K) X hn ?_)
  first
    | exact wpAny_pure h
    | exact wpAny_pure (wpAny_pure h)
    | exact wpAny_bind (wpAny_pure h)
    | exact wpAny_bind (wpAny_pure (wpAny_pure h))
    | exact wpAny_bind (wpAny_bind (wpAny_pure (wpAny_pure h)))
theorem nm_name {expr : Bool} {n : Str × Tok} {Q : Value → Shared → Prop} (X : K.In s.heap) (hr : readsIn K C (.type "type") = true) (ht : typeIn K (.ref C) = some (.type "type"))
    (e : findCls K (.ref C) (.type "type") "__name__" = some (.get (.builtin "getset_descriptor.__get__") (.builtin "type.__name__") (.ref C) (.type "type"))) (hn : nameIn K C = some n)
    (h : Q (.str n.1 n.2) { s with toks := s.toks + 1 }) : wpAny (model prog w) A (getAttr (.ref C) "__name__" expr) Q E s := by
  refine cls_read X hr e ?_
  show wpAny _ _ (do ret (← holding [Value.builtin "type.__name__"] (call (.builtin "getset_descriptor.__get__") [.builtin "type.__name__", .ref C, .type "type"]))) _ _ _
  refine wpAny_bind (wpAny_holding (wpAny_call (nm_get (K := K) (s := { s with toks := s.toks + 1 }) X (looks_typeIn X ht) hn ?_)))
  exact wpAny_pure (handed_on rfl h)
end
end PySem.W

namespace Nv
open PySem PySem.Spec PyProof.Rows L2
/-- what is asked of an exception class whose instances' class's name is read -/
structure NmC (K : PySem.W.Frag) (C : Addr) : Prop where
  ga : PySem.W.findIn K (.ref C) "__getattribute__" = some (some (.builtin "BaseException.__getattribute__"))
  gt : PySem.W.findIn K (.ref C) "__getattr__" = some none
  sb : PySem.W.subIn K (.ref C) (.type "BaseException") = some true
  cl : (PySem.W.clsIn K C).isSome = true
  cc : PySem.W.findIn K (.ref C) "__class__" = some (some (.builtin "object.__class__"))
  gs : PySem.W.specialIn K (.builtin "object.__class__") "__get__" = some (some (.builtin "getset_descriptor.__get__"))
  tk : PySem.W.takesIn K (.builtin "object.__class__") = some true
  ob : PySem.W.mroIn K C (.type "object") = some true
  rd : PySem.W.readsIn K C (.type "type") = true
  ty : PySem.W.typeIn K (.ref C) = some (.type "type")
  fc : PySem.W.findCls K (.ref C) (.type "type") "__name__" = some (.get (.builtin "getset_descriptor.__get__") (.builtin "type.__name__") (.ref C) (.type "type"))
  nm : ∃ n, PySem.W.nameIn K C = some n
section
variable {X : Cx} {e : Expr} {te : TE} {pos : Pos}
/-- o.__class__, o an exception of ours -/
theorem pe_xcls (he : PE X e te) (hb : attributeBase e "__class__" X.env (eval e X.env) = eval e X.env := by rfl) :
    PE X (.Attribute e "__class__" pos) (fun σ H Q => te σ H fun y H1 => ∃ (a C dx : Addr) (fs : List (Str × V)), y = .ref a ∧ NmC X.K C ∧ H1 a = some (exo a C (some dx)) ∧ H1 dx = some (exd dx fs) ∧ Q (.ref C) H1) := by
  constructor
  intro pins s σ H Q I h
  refine attr_of hb (thn (he.run pins s σ H _ I h) ?_)
  rintro u s1 ⟨y, H1, I1, ry, a, C, dx, fs, rfl, T, ha, hd, q⟩
  cases (show u = Value.ref a from ry)
  obtain ⟨t1, ho⟩ := exo_at I1.hok ha
  obtain ⟨mA, hns, rel⟩ := exd_at I1.hok hd
  obtain ⟨od, hod, look⟩ := lookIn_ns hns
  exact PySem.W.nm_classE (od := some od) I1.kIn ⟨ho, rfl, rfl, hod⟩ T.ga T.gt T.sb (PySem.W.findObj_dataE T.cl T.cc T.gs T.tk) T.ob ⟨V.ref C, H1, I1.tok _, rfl, q⟩
/-- C.__name__ -/
theorem pe_cname (he : PE X e te) (hb : attributeBase e "__name__" X.env (eval e X.env) = eval e X.env := by rfl) :
    PE X (.Attribute e "__name__" pos) (fun σ H Q => te σ H fun y H1 => ∃ C, y = .ref C ∧ NmC X.K C ∧ ∀ n, Q (.str n) H1) := by
  constructor
  intro pins s σ H Q I h
  refine attr_of hb (thn (he.run pins s σ H _ I h) ?_)
  rintro u s1 ⟨y, H1, I1, ry, C, rfl, T, q⟩
  cases (show u = Value.ref C from ry)
  obtain ⟨⟨n, tk⟩, hn⟩ := T.nm
  exact PySem.W.nm_name I1.kIn T.rd T.ty T.fc hn ⟨V.str n, H1, I1.tok _, ⟨tk, rfl⟩, q n⟩
end
end Nv
set_option Elab.async false
set_option linter.all false
set_option maxRecDepth 100000
set_option maxHeartbeats 4000000
/-! An own exception (its __init__ stores one field) as a value: made, its field read, its class asked. -/
namespace Nv
open PySem PySem.Spec PyProof.Rows L2

/-- the fields of an exception of ours -/
def xf (n : Str) (v : V) : List (Str × V) := [(("name" : Str), .str n), (("value" : Str), v)]
/-- the dict of an exception of ours, made of v -/
def XD (H : Hp) (dx : Addr) (v : V) : Prop := ∃ n, H dx = some (.xd (xf n v))
theorem XD.of {H : Hp} {dx : Addr} {n : Str} {v : V} : XD (upd H dx (.xd (xf n v))) dx v := ⟨n, upd_same⟩
theorem xf_value {n : Str} {v : V} : (xf n v).lookup ("value" : Str) = some v := rfl
theorem xf_name {n : Str} {v : V} : (xf n v).lookup ("name" : Str) = some (.str n) := rfl
/-- __init__(self, value): self.value = value; self.name = self.__class__.__name__ -/
def spIni (K : PySem.W.Frag) : Sp := fun vs H Q _ => ∃ (a C : Addr) (v : V), vs = [.ref a, v] ∧ OexC K C ∧ PySem.W.findIn K (.ref C) "value" = some none ∧ PySem.W.findIn K (.ref C) "name" = some none ∧ NmC K C ∧ H a = some (exo a C none) ∧
  ∀ dx n, H dx = none → dx ≠ a → Q .non (upd (upd H dx (exd dx (xf n v))) a (exo a C (some dx)))
theorem ini_heap {H : Hp} {a C dx : Addr} {n : Str} {v : V} (ne : dx ≠ a) : upd (upd (upd H dx (exd dx [(("value" : Str), v)])) a (exo a C (some dx))) dx (exd dx [(("name" : Str), .str n), (("value" : Str), v)])
    = upd (upd H dx (exd dx (xf n v))) a (exo a C (some dx)) := by
  funext b
  by_cases e1 : b = dx
  · subst e1
    rw [upd_same, upd_ne ne, upd_same]
    rfl
  · rw [upd_ne e1]
    by_cases e2 : b = a
    · rw [e2, upd_same, upd_same]
    · rw [upd_ne e2, upd_ne e2, upd_ne e1, upd_ne e1]

section
variable {X : Cx} {C fI : Addr} {k : Nat} {fd : FuncData} {x : Str} {p pos : Pos} {e : Expr} {te : TE}
/-- what is needed to make one -/
structure MkX (K : PySem.W.Frag) (C fI : Addr) : Prop where
  ox : OexC K C
  ini : PySem.W.findIn K (.ref C) "__init__" = some (some (.ref fI))
  tyI : PySem.W.typeIn K (.ref fI) = some (.type "function")
  nov : PySem.W.findIn K (.ref C) "value" = some none
  nof : PySem.W.findIn K (.ref C) "name" = some none
  nmc : NmC K C
/-- what stands behind C(e): the exception at a, its own dict at dx -/
def mkxQ (C : Addr) (Q : VK) (v : V) (H1 : Hp) : Prop := ∀ a dx n, H1 a = none → H1 dx = none → dx ≠ a → Q (.ref a) (upd (upd H1 dx (exd dx (xf n v))) a (exo a C (some dx)))
def mkxA (C : Addr) (Q : VK) : List V → Hp → Prop
  | [v], H1 => mkxQ C Q v H1
  | _, _ => False
/-- C(e) -/
theorem pe_mkx (T : MkX X.K C fI) (F1 : FnOk X.prog X.w X.K X.mg X.base CX0 k fI fd ["self", "value"] (spIni X.K)) (hr : Room (k + 1) X.A) (hb : Binds X.K fd ["self", "value"] []) (hg : Gl X x) (hm : X.mg x = some (.ref C)) (he : PE X e te)
    (hs : starEach (e :: []) X.env = (false, eval e X.env) :: starEach [] X.env := by rfl) (hpl : (backTo pos (starEach [] X.env)).any (·.1) = false := by rfl) (hdb : (x == ("__debug__" : Str)) = false := by decide) :
    PE X (.Call (.Name x p) [e] [] pos) (fun σ H Q => te σ H fun v H1 => mkxQ C Q v H1) := by
  constructor
  intro pins s σ H Q I h
  obtain ⟨nm, q, N, bs, bm, sn, sub, ab, col, dd, k0, k1, k2, k3, k5, hC, hbm⟩ := T.ox.cls
  have arg : PA X [e] (tCons te tNil) := pa_cons he pa_nil hs
  refine wpAny_Call_Name_kw (ld_glob I hg hm (PySem.W.callWith_K (h₀ := X.base) I.ok.mod.kin T.ox.kC (thn (arg.run pos pins s σ H (mkxA C Q) I h) ?_) hs hpl) hdb)
  rintro us ⟨hp, g, dr, tk, os⟩ ⟨vs, H1, I1, r1, q1⟩
  obtain ⟨v, rfl⟩ : ∃ v, vs = [v] := by
    rcases vs with _ | ⟨v, _ | ⟨_, _⟩⟩
    · exact q1.elim
    · exact ⟨v, rfl⟩
    · exact q1.elim
  have q2 : mkxQ C Q v H1 := q1
  refine ⟨I1.kIn, ?_⟩
  cases r1 with
  | cons rv rr =>
    cases rr
    rename_i u
    have h2 : ((hp.push (PySem.W.kdv_tup [u])).push (PySem.HandSPX.excO C hp.objs.size)).get? (hp.objs.size + 1) = some (PySem.HandSPX.excO C hp.objs.size) := by heap_get
    have new : hp.objs.size ≤ hp.objs.size + 1 := Nat.le_succ _
    have J := I1.laid (t' := tk) (a := hp.objs.size + 1) (o := exo (hp.objs.size + 1) C none) (h' := (hp.push (PySem.W.kdv_tup [u])).push (PySem.HandSPX.excO C hp.objs.size))
      (fun _ _ z => Heap.get?_push_of_some _ (Heap.get?_push_of_some _ z)) new (exo_ok h2)
    have nH : H1 (hp.objs.size + 1) = none := I1.hok.fresh new
    have want : spIni X.K [.ref (hp.objs.size + 1), v] (upd H1 (hp.objs.size + 1) (exo (hp.objs.size + 1) C none)) (fun z H2 => z = .non ∧ Q (.ref (hp.objs.size + 1)) H2) E0 := by
      refine ⟨_, C, v, rfl, T.ox, T.nov, T.nof, T.nmc, upd_same, fun dx n nd ne => ⟨rfl, ?_⟩⟩
      have nd1 : H1 dx = none := by rw [upd_ne ne] at nd; exact nd
      have z := q2 _ dx n nH nd1 ne
      have eh : upd (upd (upd H1 (hp.objs.size + 1) (exo (hp.objs.size + 1) C none)) dx (exd dx (xf n v))) (hp.objs.size + 1) (exo (hp.objs.size + 1) C (some dx))
          = upd (upd H1 dx (exd dx (xf n v))) (hp.objs.size + 1) (exo (hp.objs.size + 1) C (some dx)) := by
        funext b
        by_cases e1 : b = hp.objs.size + 1
        · rw [e1, upd_same, upd_same]
        · rw [upd_ne e1, upd_ne e1]
          by_cases e2 : b = dx
          · rw [e2, upd_same, upd_same]
          · rw [upd_ne e2, upd_ne e2, upd_ne e1]
      rw [eh]
      exact z
    refine wpAny_call (PySem.HandSPX.call_own F.excBase_ValueError (fun Y => PySem.HandSPX.refsVE_contains Y bm hbm) (I1.kIn _ _ hC) (PySem.W.looks_findIn I1.kIn T.ini) (fun self => PySem.W.bind_fn I1.kIn self T.tyI) (by show 1 ≤ sizeLine; decide) ?_)
    refine codeAny_mono (F1.run _ X.stack _ _ ⟨[.ref (hp.objs.size + 1), u], []⟩ [.ref (hp.objs.size + 1), u] [.ref (hp.objs.size + 1), v] _ E0 (hr.make C [u] []) (J.env0.make C [u] []) (hb _ [.ref (hp.objs.size + 1), u] J.kIn rfl) (.cons rfl (.cons rv .nil)) want) ?_
    rintro (z | (_ | _ | _ | r)) s' hz
    · exact hz.elim
    · exact hz.elim
    · exact hz.elim
    · exact hz.elim
    · obtain ⟨v', H', I3, rv', ev, q3⟩ := J.after hz
      subst ev
      exact ⟨rv', ⟨.ref (hp.objs.size + 1), H', I3, rfl, q3⟩⟩

/-- o.n, o such an exception -/
theorem pe_xval {n : Str} (he : PE X e te) (hb : attributeBase e n X.env (eval e X.env) = eval e X.env := by rfl) :
    PE X (.Attribute e n pos) (fun σ H Q => te σ H fun y H1 => ∃ (a C dx : Addr) (fs : List (Str × V)) (v : V), y = .ref a ∧ XfC X.K C ∧ PySem.W.findIn X.K (.ref C) n = some none ∧ H1 a = some (exo a C (some dx)) ∧ H1 dx = some (exd dx fs) ∧ fs.lookup n = some v ∧ Q v H1) := by
  constructor
  intro pins s σ H Q I h
  refine attr_of hb (thn (he.run pins s σ H _ I h) ?_)
  rintro u s1 ⟨y, H1, I1, ry, a, C, dx, fs, v, rfl, T, nn, ha, hd, hl, q⟩
  cases (show u = Value.ref a from ry)
  obtain ⟨t1, ho⟩ := exo_at I1.hok ha
  obtain ⟨mA, hns, rel⟩ := exd_at I1.hok hd
  obtain ⟨od, hod, look⟩ := lookIn_ns hns
  have rn := rel n
  rw [hl] at rn
  obtain ⟨r, hr, rr⟩ := rn.some_of
  exact HandSPX.exc_get I1.kIn ⟨ho, rfl, rfl, hod⟩ T.ga T.gg T.exC (PySem.W.findObj_own T.hdC nn rfl (by rw [look, hr])) (handed_of rr) ⟨v, H1, I1.tok _, rr, q⟩

/-- an exception of the class at C stands at a -/
inductive XIn (H : Hp) (a C : Addr) : Prop
  | mk (dx : Addr) (u : HO) (φ : Heap → Prop) (ha : H a = some (.ext φ)) (hφ : ∀ h, φ h → ∃ ox, h.get? a = some ox ∧ ox.cls = .ref C ∧ ox.dict = some dx ∧ PySem.W.notCls ox = true)
      (hd : H dx = some u) (hu : (∃ fs, u = exd dx fs) ∨ ∃ fs, u = .xd fs)
theorem XIn.inst {P : Program} {w : World} {H : Hp} {h : Heap} {a C : Addr} (x : XIn H a C) (ok : HOk P w H h) : ∃ ox od, PySem.W.InstAt h a ox C od := by
  obtain ⟨dx, u, φ, ha, hφ, hd, hu⟩ := x
  obtain ⟨ox, g, c, d, n⟩ := hφ h (ok a _ ha).1
  have : ∃ o, h.get? dx = some o := by
    rcases hu with ⟨fs, rfl⟩ | ⟨fs, rfl⟩
    · obtain ⟨mA, ⟨o, _, _, e, _⟩, _⟩ := exd_at ok hd
      exact ⟨o, e⟩
    · obtain ⟨mA, ⟨o, _, _, e, _⟩, _⟩ := ok dx _ hd
      exact ⟨o, e⟩
  obtain ⟨o, ho⟩ := this
  exact ⟨ox, some o, g, c, n, by rw [d]; exact ho⟩
theorem XIn.of_made {H : Hp} {a C dx : Addr} {fs : List (Str × V)} (ha : H a = some (exo a C (some dx))) (hd : H dx = some (exd dx fs)) : XIn H a C :=
  .mk dx _ _ ha (fun h ⟨t, e⟩ => ⟨_, e, rfl, rfl, rfl⟩) hd (.inl ⟨fs, rfl⟩)
theorem XIn.more {H H' : Hp} {a C : Addr} (k : Same H H') (x : XIn H a C) : XIn H' a C := by
  obtain ⟨dx, u, φ, ha, hφ, hd, hu⟩ := x
  exact .mk dx u φ (k _ _ ha) hφ (k _ _ hd) hu

/-- what isinstance asks of the class -/
structure XCls (K : PySem.W.Frag) (C : Addr) : Prop where
  cl : (PySem.W.clsIn K C).isSome = true
  ga : PySem.W.findIn K (.ref C) "__getattribute__" = some (some (.builtin "BaseException.__getattribute__"))
  gt : PySem.W.findIn K (.ref C) "__getattr__" = some none
  sb : PySem.W.subIn K (.ref C) (.type "BaseException") = some true
  cc : PySem.W.findIn K (.ref C) "__class__" = some (some (.builtin "object.__class__"))
  gs : PySem.W.specialIn K (.builtin "object.__class__") "__get__" = some (some (.builtin "getset_descriptor.__get__"))
  tk : PySem.W.takesIn K (.builtin "object.__class__") = some true
  ob : PySem.W.mroIn K C (.type "object") = some true
theorem call_isX : CallR X (.builtin "isinstance") (fun xs H Q => ∃ (a C : Addr) (c : V) (cv : Value) (b : Bool), xs = [.ref a, c] ∧ XIn H a C ∧ XCls X.K C ∧ ClsV c cv ∧ PySem.W.kitOne X.K (.ref C) cv = some b ∧ Q (.bl b) H) := by
  rintro pins s σ H xs us Q I r ⟨a, C, c, cv, b, rfl, x, T, k, hk, q⟩
  obtain ⟨ox, od, J⟩ := x.inst I.hok
  cases r with
  | cons ra rr =>
    cases rr with
    | cons rc rr =>
      cases rr
      rename_i u1 u2
      cases (show u1 = Value.ref a from ra)
      have e2 := k.eq rc
      subst e2
      exact PySem.W.kia_one (PySem.W.kitx_exc T.cl T.ga T.gt T.sb T.cc T.gs T.tk T.ob) I.kIn J hk (fun z => nomatch z) fun tk => ⟨.bl b, H, I.tok tk, rfl, q⟩
end
end Nv
set_option Elab.async false
set_option linter.all false
set_option maxRecDepth 100000
set_option maxHeartbeats 4000000
/-! try with several except clauses, each with a name or none. -/
namespace Nv
open PySem PySem.Spec PyProof.Rows L2

/-- a clause: its class, its name's slot, its suite's reading -/
abbrev Clause := Value × Option Nat × (Addr → Value → Option Addr → TS)
/-- behind a suite its name's slot is empty -/
def blank (D : Ends) (i : Nat) : Ends :=
  { nx := fun σ H => D.nx (σ.set i none) H, rt := D.rt, bk := fun σ H => D.bk (σ.set i none) H, ct := fun σ H => D.ct (σ.set i none) H }
/-- what the clauses wish -/
def wHds (K : PySem.W.Frag) (Wout : WX) (D : Ends) : List Clause → WX
  | [] => Wout
  | (c, i, ts) :: r => fun cls d σ H => ∃ b, PySem.W.exmOne K cls c = some b ∧
      (b = true → ∀ a, H a = none → match i with
        | none => ts a cls d D σ H
        | some j => ts a cls d (blank D j) (σ.set j (some (.ref a))) H) ∧
      (b = false → wHds K Wout D r cls d σ H)
/-- a suite keeps its reading, whatever exception it holds -/
def SuiteOk (X : Cx) (suite : List Stmt) (ts : Addr → Value → Option Addr → TS) : Prop :=
  ∀ (a : Addr) (oe : Obj) (cls : Value) (d : Option Addr) (pn : List (Addr × Obj)), Zc cls d oe → (∃ vs, oe.data = .fields vs) → X.base.get? a = none → PSs (X.suite a ((a, oe) :: pn)) suite (ts a cls d)
inductive Hds (X : Cx) : List ExceptHandler → List Clause → Prop
  | nil : Hds X [] []
  | bare {x : Str} {c : Value} {ts : Addr → Value → Option Addr → TS} {b₀ : Stmt} {suite : List Stmt} {p p' : Pos} {hds : List ExceptHandler} {l : List Clause}
      (nm : Names X x c) (su : SuiteOk X (b₀ :: suite) ts) (r : Hds X hds l) : Hds X (.ExceptHandler (some (.Name x p)) none (b₀ :: suite) p' :: hds) ((c, none, ts) :: l)
  | named {x n : Str} {i : Nat} {c : Value} {ts : Addr → Value → Option Addr → TS} {b₀ : Stmt} {suite : List Stmt} {p p' : Pos} {hds : List ExceptHandler} {l : List Clause}
      (nm : Names X x c) (hi : X.N[i]? = some n) (hl : X.env.kindOf n = some .local) (su : SuiteOk X (b₀ :: suite) ts) (r : Hds X hds l) :
      Hds X (.ExceptHandler (some (.Name x p)) (some n) (b₀ :: suite) p' :: hds) ((c, some i, ts) :: l)

section
variable {X : Cx} {pins : List (Addr × Obj)} {σ : L2.St} {H : Hp} {a : Addr} {cls : Value} {d : Option Addr} {B : Heap} {sI s : Shared}
/-- an exception stands caught -/
structure Caught (X : Cx) (pins : List (Addr × Obj)) (σ : L2.St) (H : Hp) (a : Addr) (cls : Value) (d : Option Addr) (B : Heap) (sI s : Shared) : Prop where
  inv0 : Inv X pins σ H sI
  gr : ∀ b o, sI.heap.get? b = some o → b ∉ frs X.stack → B.get? b = some o
  up : sI.heap.UpToSlots s.heap
  os : s.os = sI.os
  ag : AllBare s.gens
  na : H a = none
  fl : HandSPX.FlyingZ B (X.env :: X.outer) a (Zc cls d) s.heap
theorem Caught.inv (z : Caught X pins σ H a cls d B sI s) : Inv X pins σ H s := z.inv0.landed z.gr z.fl.1 z.up z.os z.ag
theorem Caught.again (z : Caught X pins σ H a cls d B sI s) {h : Heap} (fl : HandSPX.FlyingZ B (X.env :: X.outer) a (Zc cls d) h) (u : s.heap.UpToSlots h) : Caught X pins σ H a cls d B sI { s with heap := h } :=
  ⟨z.inv0, z.gr, z.up.trans u, z.os, z.ag, z.na, fl⟩
theorem Caught.apart (z : Caught X pins σ H a cls d B sI s) : a ∉ frs (X.env :: X.outer) := by
  obtain ⟨oe, vs, he, _, hd⟩ := z.fl.there
  intro hm
  obtain ⟨_, o, ho, nf⟩ := z.fl.2.2.1.mem hm
  rw [he] at ho
  cases ho
  exact nf _ hd
theorem Caught.notBase (z : Caught X pins σ H a cls d B sI s) : X.base.get? a = none := by
  cases q : X.base.get? a with
  | none => rfl
  | some o =>
    have h1 := (z.inv0.bs a o q).1
    have h2 : a ∉ frs X.stack := fun hm => by
      rcases List.mem_cons.mp (z.inv0.stkSub a hm) with e | hf
      · exact absurd (Nat.lt_of_lt_of_le (Heap.lt_size q) z.inv0.ok.bsz) (by rw [e]; exact Nat.not_lt.mpr z.inv0.ok.above)
      · exact z.inv0.ok.nofr q hf
    exact absurd (z.gr a o h1 h2) (by rw [z.fl.2.1]; exact fun y => nomatch y)
theorem Caught.suite (z : Caught X pins σ H a cls d B sI s) (hf : X.env.frame = some X.env.locals) :
    ∃ oe, s.heap.get? a = some oe ∧ Zc cls d oe ∧ (∃ vs, oe.data = .fields vs) ∧ Inv (X.suite a ((a, oe) :: (X.pn ++ pins))) [] σ H s := by
  obtain ⟨oe, vs, he, hz, hd⟩ := z.fl.there
  have ap := z.apart
  have e0 : frs (X.env :: X.outer) = X.env.locals :: frs X.outer := by
    unfold frs
    rw [List.filterMap_cons, hf]
  rw [e0] at ap
  exact ⟨oe, he, hz, ⟨vs, hd⟩, z.inv.suite he hd z.na (fun e => ap (by rw [e]; exact List.mem_cons_self)) fun hm => ap (List.mem_cons_of_mem _ hm)⟩

variable {Wout : WX} {D : Ends}
theorem handled_by (hs : X.stack = X.env :: X.outer) (hf : X.env.frame = some X.env.locals) (hN : X.N.Nodup) (tk : Takes X Wout) {hds : List ExceptHandler} {l : List Clause} (hh : Hds X hds l) :
    ∀ s, Caught X pins σ H a cls d B sI s → wHds X.K Wout D l cls d σ H → wpAny (model X.prog X.w) X.A (handleBy (.ref a) X.env hds) (SP X pins D) X.xe s := by
  have look : ∀ {s : Shared} {x : Str} {c : Value} {p : Pos} {R : Value → Shared → Prop} {E1 : Value → Shared → Prop}, Caught X pins σ H a cls d B sI s → Names X x c → R c s →
      wpAny (model X.prog X.w) (X.A.mark (some (.ref a))) (eval (.Name x p) X.env) R E1 s := by
    intro s x c p R E1 z nm q
    obtain ⟨oe, _, _, _, S⟩ := z.suite hf
    obtain ⟨g, nd, h | ⟨h, hv, nn⟩⟩ := nm
    · exact ld_glob (X := X.suite a ((a, oe) :: (X.pn ++ pins))) S g h q nd
    · exact ld_blt (X := X.suite a ((a, oe) :: (X.pn ++ pins))) S g h hv q nn nd
  have asks : ∀ {s : Shared} {c : Value} {b : Bool}, Caught X pins σ H a cls d B sI s → PySem.W.exmOne X.K cls c = some b →
      PySem.W.Looks (model X.prog X.w) s.heap (excMatches (.ref a) c) b := by
    intro s c b z e
    obtain ⟨oe, he, hz, _, _⟩ := z.suite hf
    exact PySem.W.exm_one (M := model X.prog X.w) z.inv.kIn (fun A' Q' E' s' k q => wpAny_typeOf_ref (k _ _ he) (by rw [hz.1]; exact q)) e
  have ok := fun (s : Shared) (z : Caught X pins σ H a cls d B sI s) => z.inv0.ok
  induction hh with
  | nil =>
    intro s z w
    obtain ⟨_, _, _, oe, vs, T, _, _, he, _, hd, h1, _⟩ := id z.fl
    have up : wpAny (model X.prog X.w) X.A (setFlight (.ref a) X.env.frame) (fun _ s4 => wpAny (model X.prog X.w) X.A (throw (.ref a) : Sem Flow) (SP X pins D) X.xe s4) X.xe s := by
      rw [hf]
      refine HandSPX.setFlight_upZ z.fl fun h4 held u4 => wpAny_throw (tk _ _ ?_)
      exact ⟨a, B, sI, pins, σ, H, cls, d, rfl, z.inv0, z.gr, z.up.trans u4, .inr (.inr (by rw [hs]; exact held)), z.na, z.os, z.ag, w⟩
    refine wpAny_handleBy_nil ?_
    unfold PySem.passOn
    refine wpAny_bind (wpAny_field he hd h1 ?_)
    rw [if_neg (by simp)]
    first | exact wpAny_bind up | exact wpAny_bind (wpAny_pure (wpAny_bind up))
  | bare nm su r ih =>
    intro s z w
    obtain ⟨b, e, yes, no⟩ := w
    refine wpAny_handleBy_cons (codeAny_handlers_test (look z nm ((asks z e).here ?_))) (by intro q; cases q)
    rcases b with _ | _
    · exact ih s z (no rfl)
    refine codeAny_handlers_suite (HandSPX.lands_againZ z.fl fun h4 fl4 u4 => ?_)
    obtain ⟨oe, he, hz, hv, S⟩ := (z.again fl4 u4).suite hf
    refine wpAny_mono ((su a oe cls d (X.pn ++ pins) hz hv z.notBase).run [] _ σ H D S (yes rfl a z.na)) ?_ fun _ _ y => y.elim
    rintro (_ | _ | _ | u) s6 q
    · obtain ⟨σ6, H6, S6, q6⟩ := q
      exact ⟨σ6, H6, S6.unsuite (ok s z), q6⟩
    · obtain ⟨σ6, H6, S6, q6⟩ := q
      exact ⟨σ6, H6, S6.unsuite (ok s z), q6⟩
    · obtain ⟨σ6, H6, S6, q6⟩ := q
      exact ⟨σ6, H6, S6.unsuite (ok s z), q6⟩
    · obtain ⟨v6, σ6, H6, S6, r6, q6⟩ := q
      exact ⟨v6, σ6, H6, S6.unsuite (ok s z), r6, q6⟩
  | named nm hi hl su r ih =>
    intro s z w
    obtain ⟨b, e, yes, no⟩ := w
    refine wpAny_handleBy_cons (codeAny_handlers_test (look z nm ((asks z e).here ?_))) (by intro q; cases q)
    rcases b with _ | _
    · exact ih s z (no rfl)
    refine codeAny_handlers_suite_as (HandSPX.lands_againZ z.fl fun h4 fl4 u4 => ?_)
    obtain ⟨oe, he, hz, hv, S⟩ := (z.again fl4 u4).suite hf
    refine store_ok (X := X.suite a ((a, oe) :: (X.pn ++ pins))) (v := .ref a) S hN hi (.inl hl) rfl (fun s5 S5 => ?_) (.inr hl)
    refine wpAny_mono ((su a oe cls d (X.pn ++ pins) hz hv z.notBase).run [] s5 _ H _ S5 (yes rfl a z.na)) ?_ fun _ _ y => y.elim
    have wipes : ∀ {σ6 : L2.St} {H6 : Hp} {s6 : Shared} {R : Shared → Prop} {p' : Pos}, Inv (X.suite a ((a, oe) :: (X.pn ++ pins))) [] σ6 H6 s6 → (∀ s7, Inv X pins (σ6.set _ none) H6 s7 → R s7) →
        wpAny (model X.prog X.w) X.A (do bindName X.env _ .none; unbindBehindTheSuite X.env _ p') (fun _ s7 => R s7) X.xe s6 := fun S6 q => gone_ok (S6.unsuite (ok s z)) hN hi hl q
    rintro (_ | _ | _ | u) s6 q
    · obtain ⟨σ6, H6, S6, q6⟩ := q
      exact wipes S6 fun s7 J => ⟨_, H6, J, q6⟩
    · obtain ⟨σ6, H6, S6, q6⟩ := q
      exact wipes S6 fun s7 J => ⟨_, H6, J, q6⟩
    · obtain ⟨σ6, H6, S6, q6⟩ := q
      exact wipes S6 fun s7 J => ⟨_, H6, J, q6⟩
    · obtain ⟨v6, σ6, H6, S6, r6, q6⟩ := q
      exact wipes S6 fun s7 J => ⟨v6, _, H6, J, r6, q6⟩
end

/-- try: body, then the clauses -/
theorem ps_try_hds {X : Cx} {body : List Stmt} {h₀ : ExceptHandler} {hds : List ExceptHandler} {l : List Clause} {pos : Pos} {tb : WX → TS} {Wout : WX}
    (hs : X.stack = X.env :: X.outer) (hf : X.env.frame = some X.env.locals) (hN : X.N.Nodup) (tk : Takes X Wout)
    (hb : ∀ (W : WX) (pn : List (Addr × Obj)) (xe : Value → Shared → Prop), Takes (X.tr pn xe) W → PassesOwn (model X.prog X.w) X.A X.env xe → PSs (X.tr pn xe) body (tb W))
    (hh : Hds X (h₀ :: hds) l) : PS X (.Try body (h₀ :: hds) [] [] pos) (fun D σ H => tb (wHds X.K Wout D l) D σ H) := by
  constructor
  intro pins s σ H D I h
  have ok := I.ok
  let xe : Value → Shared → Prop := fun e s1 => wpAny (model X.prog X.w) X.A (noteFrame e X.env) (fun _ s2 => wpAny (model X.prog X.w) X.A (setFlight e none) (fun _ s3 =>
    wpAny (model X.prog X.w) X.A (handleBy e X.env (h₀ :: hds)) (SP X pins D) X.xe s3) X.xe s2) X.xe s1
  have takes : Takes (X.tr (X.pn ++ pins) xe) (wHds X.K Wout D l) := by
    rintro u s' ⟨a, B, sI, pins', σ', H', cls, d, rfl, J', gr, up, sky, na, os, ag, w⟩
    have J : Inv X pins σ' H' sI := J'.ofTry ok
    rw [show (X.tr (X.pn ++ pins) xe).stack = X.env :: X.outer from hs] at sky
    refine Sky.land Zc.steady (by rw [ok.frames, hs]) hf sky fun h3 fl up3 => ?_
    exact handled_by hs hf hN tk hh _ ⟨J, gr, up.trans up3, os, ag, na, fl⟩ w
  refine wpAny_Try_except (wpAny_mono ((hb _ (X.pn ++ pins) xe takes PassesOwn.looking).run [] s σ H D (I.toTry _) h) ?_ fun _ _ y => y)
  rintro (_ | _ | _ | u) s1 q
  · obtain ⟨σ', H', J, q⟩ := q
    exact wpAny_execs_nil ⟨σ', H', J.ofTry ok, q⟩
  · obtain ⟨σ', H', J, q⟩ := q
    exact ⟨σ', H', J.ofTry ok, q⟩
  · obtain ⟨σ', H', J, q⟩ := q
    exact ⟨σ', H', J.ofTry ok, q⟩
  · obtain ⟨v, σ', H', J, r, q⟩ := q
    exact ⟨v, σ', H', J.ofTry ok, r, q⟩
end Nv
set_option Elab.async false
set_option linter.all false
set_option maxRecDepth 100000
set_option maxHeartbeats 4000000
/-! The same for exceptions that were raised where nothing is handled (their context is None, which the suites may use). -/
namespace NvN
open PySem PySem.Spec PyProof.Rows L2 Nv

/-- a suite keeps its reading, whatever exception it holds -/
def SuiteOk (X : Cx) (suite : List Stmt) (ts : Addr → Value → Option Addr → TS) : Prop :=
  ∀ (a : Addr) (oe : Obj) (cls : Value) (d : Option Addr) (pn : List (Addr × Obj)), L2N.Zn cls d oe → (∃ vs, oe.data = .fields vs) → X.base.get? a = none → PSs (X.suite a ((a, oe) :: pn)) suite (ts a cls d)
inductive Hds (X : Cx) : List ExceptHandler → List Clause → Prop
  | nil : Hds X [] []
  | bare {x : Str} {c : Value} {ts : Addr → Value → Option Addr → TS} {b₀ : Stmt} {suite : List Stmt} {p p' : Pos} {hds : List ExceptHandler} {l : List Clause}
      (nm : Names X x c) (su : SuiteOk X (b₀ :: suite) ts) (r : Hds X hds l) : Hds X (.ExceptHandler (some (.Name x p)) none (b₀ :: suite) p' :: hds) ((c, none, ts) :: l)
  | named {x n : Str} {i : Nat} {c : Value} {ts : Addr → Value → Option Addr → TS} {b₀ : Stmt} {suite : List Stmt} {p p' : Pos} {hds : List ExceptHandler} {l : List Clause}
      (nm : Names X x c) (hi : X.N[i]? = some n) (hl : X.env.kindOf n = some .local) (su : SuiteOk X (b₀ :: suite) ts) (r : Hds X hds l) :
      Hds X (.ExceptHandler (some (.Name x p)) (some n) (b₀ :: suite) p' :: hds) ((c, some i, ts) :: l)

section
variable {X : Cx} {pins : List (Addr × Obj)} {σ : L2.St} {H : Hp} {a : Addr} {cls : Value} {d : Option Addr} {B : Heap} {sI s : Shared}
/-- an exception stands caught -/
structure Caught (X : Cx) (pins : List (Addr × Obj)) (σ : L2.St) (H : Hp) (a : Addr) (cls : Value) (d : Option Addr) (B : Heap) (sI s : Shared) : Prop where
  inv0 : Inv X pins σ H sI
  gr : ∀ b o, sI.heap.get? b = some o → b ∉ frs X.stack → B.get? b = some o
  up : sI.heap.UpToSlots s.heap
  os : s.os = sI.os
  ag : AllBare s.gens
  na : H a = none
  fl : HandSPX.FlyingZ B (X.env :: X.outer) a (L2N.Zn cls d) s.heap
theorem Caught.inv (z : Caught X pins σ H a cls d B sI s) : Inv X pins σ H s := z.inv0.landed z.gr z.fl.1 z.up z.os z.ag
theorem Caught.again (z : Caught X pins σ H a cls d B sI s) {h : Heap} (fl : HandSPX.FlyingZ B (X.env :: X.outer) a (L2N.Zn cls d) h) (u : s.heap.UpToSlots h) : Caught X pins σ H a cls d B sI { s with heap := h } :=
  ⟨z.inv0, z.gr, z.up.trans u, z.os, z.ag, z.na, fl⟩
theorem Caught.apart (z : Caught X pins σ H a cls d B sI s) : a ∉ frs (X.env :: X.outer) := by
  obtain ⟨oe, vs, he, _, hd⟩ := z.fl.there
  intro hm
  obtain ⟨_, o, ho, nf⟩ := z.fl.2.2.1.mem hm
  rw [he] at ho
  cases ho
  exact nf _ hd
theorem Caught.notBase (z : Caught X pins σ H a cls d B sI s) : X.base.get? a = none := by
  cases q : X.base.get? a with
  | none => rfl
  | some o =>
    have h1 := (z.inv0.bs a o q).1
    have h2 : a ∉ frs X.stack := fun hm => by
      rcases List.mem_cons.mp (z.inv0.stkSub a hm) with e | hf
      · exact absurd (Nat.lt_of_lt_of_le (Heap.lt_size q) z.inv0.ok.bsz) (by rw [e]; exact Nat.not_lt.mpr z.inv0.ok.above)
      · exact z.inv0.ok.nofr q hf
    exact absurd (z.gr a o h1 h2) (by rw [z.fl.2.1]; exact fun y => nomatch y)
theorem Caught.suite (z : Caught X pins σ H a cls d B sI s) (hf : X.env.frame = some X.env.locals) :
    ∃ oe, s.heap.get? a = some oe ∧ L2N.Zn cls d oe ∧ (∃ vs, oe.data = .fields vs) ∧ Inv (X.suite a ((a, oe) :: (X.pn ++ pins))) [] σ H s := by
  obtain ⟨oe, vs, he, hz, hd⟩ := z.fl.there
  have ap := z.apart
  have e0 : frs (X.env :: X.outer) = X.env.locals :: frs X.outer := by
    unfold frs
    rw [List.filterMap_cons, hf]
  rw [e0] at ap
  exact ⟨oe, he, hz, ⟨vs, hd⟩, z.inv.suite he hd z.na (fun e => ap (by rw [e]; exact List.mem_cons_self)) fun hm => ap (List.mem_cons_of_mem _ hm)⟩

variable {Wout : WX} {D : Ends}
theorem handled_by (hs : X.stack = X.env :: X.outer) (hf : X.env.frame = some X.env.locals) (hN : X.N.Nodup) (tk : L2N.Takes X Wout) {hds : List ExceptHandler} {l : List Clause} (hh : Hds X hds l) :
    ∀ s, Caught X pins σ H a cls d B sI s → wHds X.K Wout D l cls d σ H → wpAny (model X.prog X.w) X.A (handleBy (.ref a) X.env hds) (SP X pins D) X.xe s := by
  have look : ∀ {s : Shared} {x : Str} {c : Value} {p : Pos} {R : Value → Shared → Prop} {E1 : Value → Shared → Prop}, Caught X pins σ H a cls d B sI s → Names X x c → R c s →
      wpAny (model X.prog X.w) (X.A.mark (some (.ref a))) (eval (.Name x p) X.env) R E1 s := by
    intro s x c p R E1 z nm q
    obtain ⟨oe, _, _, _, S⟩ := z.suite hf
    obtain ⟨g, nd, h | ⟨h, hv, nn⟩⟩ := nm
    · exact ld_glob (X := X.suite a ((a, oe) :: (X.pn ++ pins))) S g h q nd
    · exact ld_blt (X := X.suite a ((a, oe) :: (X.pn ++ pins))) S g h hv q nn nd
  have asks : ∀ {s : Shared} {c : Value} {b : Bool}, Caught X pins σ H a cls d B sI s → PySem.W.exmOne X.K cls c = some b →
      PySem.W.Looks (model X.prog X.w) s.heap (excMatches (.ref a) c) b := by
    intro s c b z e
    obtain ⟨oe, he, hz, _, _⟩ := z.suite hf
    exact PySem.W.exm_one (M := model X.prog X.w) z.inv.kIn (fun A' Q' E' s' k q => wpAny_typeOf_ref (k _ _ he) (by rw [hz.1]; exact q)) e
  have ok := fun (s : Shared) (z : Caught X pins σ H a cls d B sI s) => z.inv0.ok
  induction hh with
  | nil =>
    intro s z w
    obtain ⟨_, _, _, oe, vs, T, _, _, he, _, hd, h1, _⟩ := id z.fl
    have up : wpAny (model X.prog X.w) X.A (setFlight (.ref a) X.env.frame) (fun _ s4 => wpAny (model X.prog X.w) X.A (throw (.ref a) : Sem Flow) (SP X pins D) X.xe s4) X.xe s := by
      rw [hf]
      refine HandSPX.setFlight_upZ z.fl fun h4 held u4 => wpAny_throw (tk _ _ ?_)
      exact ⟨a, B, sI, pins, σ, H, cls, d, rfl, z.inv0, z.gr, z.up.trans u4, .inr (.inr (by rw [hs]; exact held)), z.na, z.os, z.ag, w⟩
    refine wpAny_handleBy_nil ?_
    unfold PySem.passOn
    refine wpAny_bind (wpAny_field he hd h1 ?_)
    rw [if_neg (by simp)]
    first | exact wpAny_bind up | exact wpAny_bind (wpAny_pure (wpAny_bind up))
  | bare nm su r ih =>
    intro s z w
    obtain ⟨b, e, yes, no⟩ := w
    refine wpAny_handleBy_cons (codeAny_handlers_test (look z nm ((asks z e).here ?_))) (by intro q; cases q)
    rcases b with _ | _
    · exact ih s z (no rfl)
    refine codeAny_handlers_suite (HandSPX.lands_againZ z.fl fun h4 fl4 u4 => ?_)
    obtain ⟨oe, he, hz, hv, S⟩ := (z.again fl4 u4).suite hf
    refine wpAny_mono ((su a oe cls d (X.pn ++ pins) hz hv z.notBase).run [] _ σ H D S (yes rfl a z.na)) ?_ fun _ _ y => y.elim
    rintro (_ | _ | _ | u) s6 q
    · obtain ⟨σ6, H6, S6, q6⟩ := q
      exact ⟨σ6, H6, S6.unsuite (ok s z), q6⟩
    · obtain ⟨σ6, H6, S6, q6⟩ := q
      exact ⟨σ6, H6, S6.unsuite (ok s z), q6⟩
    · obtain ⟨σ6, H6, S6, q6⟩ := q
      exact ⟨σ6, H6, S6.unsuite (ok s z), q6⟩
    · obtain ⟨v6, σ6, H6, S6, r6, q6⟩ := q
      exact ⟨v6, σ6, H6, S6.unsuite (ok s z), r6, q6⟩
  | named nm hi hl su r ih =>
    intro s z w
    obtain ⟨b, e, yes, no⟩ := w
    refine wpAny_handleBy_cons (codeAny_handlers_test (look z nm ((asks z e).here ?_))) (by intro q; cases q)
    rcases b with _ | _
    · exact ih s z (no rfl)
    refine codeAny_handlers_suite_as (HandSPX.lands_againZ z.fl fun h4 fl4 u4 => ?_)
    obtain ⟨oe, he, hz, hv, S⟩ := (z.again fl4 u4).suite hf
    refine store_ok (X := X.suite a ((a, oe) :: (X.pn ++ pins))) (v := .ref a) S hN hi (.inl hl) rfl (fun s5 S5 => ?_) (.inr hl)
    refine wpAny_mono ((su a oe cls d (X.pn ++ pins) hz hv z.notBase).run [] s5 _ H _ S5 (yes rfl a z.na)) ?_ fun _ _ y => y.elim
    have wipes : ∀ {σ6 : L2.St} {H6 : Hp} {s6 : Shared} {R : Shared → Prop} {p' : Pos}, Inv (X.suite a ((a, oe) :: (X.pn ++ pins))) [] σ6 H6 s6 → (∀ s7, Inv X pins (σ6.set _ none) H6 s7 → R s7) →
        wpAny (model X.prog X.w) X.A (do bindName X.env _ .none; unbindBehindTheSuite X.env _ p') (fun _ s7 => R s7) X.xe s6 := fun S6 q => gone_ok (S6.unsuite (ok s z)) hN hi hl q
    rintro (_ | _ | _ | u) s6 q
    · obtain ⟨σ6, H6, S6, q6⟩ := q
      exact wipes S6 fun s7 J => ⟨_, H6, J, q6⟩
    · obtain ⟨σ6, H6, S6, q6⟩ := q
      exact wipes S6 fun s7 J => ⟨_, H6, J, q6⟩
    · obtain ⟨σ6, H6, S6, q6⟩ := q
      exact wipes S6 fun s7 J => ⟨_, H6, J, q6⟩
    · obtain ⟨v6, σ6, H6, S6, r6, q6⟩ := q
      exact wipes S6 fun s7 J => ⟨v6, _, H6, J, r6, q6⟩
end

/-- try: body, then the clauses -/
theorem ps_try_hds {X : Cx} {body : List Stmt} {h₀ : ExceptHandler} {hds : List ExceptHandler} {l : List Clause} {pos : Pos} {tb : WX → TS} {Wout : WX}
    (hs : X.stack = X.env :: X.outer) (hf : X.env.frame = some X.env.locals) (hN : X.N.Nodup) (tk : L2N.Takes X Wout)
    (hb : ∀ (W : WX) (pn : List (Addr × Obj)) (xe : Value → Shared → Prop), L2N.Takes (X.tr pn xe) W → PassesOwn (model X.prog X.w) X.A X.env xe → PSs (X.tr pn xe) body (tb W))
    (hh : Hds X (h₀ :: hds) l) : PS X (.Try body (h₀ :: hds) [] [] pos) (fun D σ H => tb (wHds X.K Wout D l) D σ H) := by
  constructor
  intro pins s σ H D I h
  have ok := I.ok
  let xe : Value → Shared → Prop := fun e s1 => wpAny (model X.prog X.w) X.A (noteFrame e X.env) (fun _ s2 => wpAny (model X.prog X.w) X.A (setFlight e none) (fun _ s3 =>
    wpAny (model X.prog X.w) X.A (handleBy e X.env (h₀ :: hds)) (SP X pins D) X.xe s3) X.xe s2) X.xe s1
  have takes : L2N.Takes (X.tr (X.pn ++ pins) xe) (wHds X.K Wout D l) := by
    rintro u s' ⟨a, B, sI, pins', σ', H', cls, d, rfl, J', gr, up, sky, na, os, ag, w⟩
    have J : Inv X pins σ' H' sI := J'.ofTry ok
    rw [show (X.tr (X.pn ++ pins) xe).stack = X.env :: X.outer from hs] at sky
    refine L2N.Sky.land L2N.Zn.steady (by rw [ok.frames, hs]) hf sky fun h3 fl up3 => ?_
    exact handled_by hs hf hN tk hh _ ⟨J, gr, up.trans up3, os, ag, na, fl⟩ w
  refine wpAny_Try_except (wpAny_mono ((hb _ (X.pn ++ pins) xe takes PassesOwn.looking).run [] s σ H D (I.toTry _) h) ?_ fun _ _ y => y)
  rintro (_ | _ | _ | u) s1 q
  · obtain ⟨σ', H', J, q⟩ := q
    exact wpAny_execs_nil ⟨σ', H', J.ofTry ok, q⟩
  · obtain ⟨σ', H', J, q⟩ := q
    exact ⟨σ', H', J.ofTry ok, q⟩
  · obtain ⟨σ', H', J, q⟩ := q
    exact ⟨σ', H', J.ofTry ok, q⟩
  · obtain ⟨v, σ', H', J, r, q⟩ := q
    exact ⟨v, σ', H', J.ofTry ok, r, q⟩
end NvN
set_option Elab.async false
set_option linter.all false
set_option maxRecDepth 100000
set_option maxHeartbeats 4000000
/-! Within an except suite: a list comprehension over a range. -/
namespace Nv
open PySem PySem.Spec PyProof.Rows L2

/-- a block that bears the pins of its def -/
abbrev blkP (X : Cx) (s : Shared) (H : Hp) (scope : Scope) (ce : Env) (fp : List Addr) : Cx := { X.blk s H scope ce fp with pn := X.pn }
section
variable {X : Cx} {pins : List (Addr × Obj)} {σ : L2.St} {H : Hp} {s s' : Shared} {scope : Scope} {ce : Env} {fp : List Addr} {S0 : Shared} {H0 : Hp}
theorem Inv.bear (J : Inv (X.blk S0 H0 scope ce fp) [] σ H s) (pp : ∀ p ∈ X.pn, s.heap.get? p.1 = some p.2 ∧ H p.1 = none ∧ p.1 ≠ ce.locals ∧ p.1 ∉ frs X.stack ∧ ∀ v, p.2.data ≠ .cell v) : Inv (blkP X S0 H0 scope ce fp) [] σ H s := by
  have o := J.ok
  have o' : (blkP X S0 H0 scope ce fp).Ok := { mod := o.mod, kind := o.kind, glob := o.glob, blt := o.blt, above := o.above, inj := o.inj, has := o.has, cab := o.cab, hd := o.hd, frames := o.frames, stk := o.stk, exf := o.exf, bs := o.bs, bsz := o.bsz, noex := o.noex, exfs := o.exfs, funs := o.funs, frf := o.frf }
  exact { ok := o', os := J.os, bare := J.bare, base := J.base, loc := J.loc, cell := J.cell, free := J.free, freeC := J.freeC, pin := fun p hp => pp p (by simpa using hp), hok := J.hok, len := J.len }
end

theorem pe_lcHot {X : Cx} {elt tg iter : Expr} {scope : Scope} {own : List (Str × Nat)} {pos : Pos} {wi : TI} {g : TG} {te : TE} (hot : L2H.HotC X) (hN : X.N.Nodup) (hi : L2H.PIH X tg iter wi) (bk : BlkOk X.N X.env.scope scope own)
    (hg : ∀ (s : Shared) (H : Hp) (C : Addr) (cl : List (Str × Addr)) (fp : List Addr), PG (blkP X s H scope (compEnvC scope cl C X.env) fp) tg g)
    (he : ∀ (s : Shared) (H : Hp) (C : Addr) (cl : List (Str × Addr)) (fp : List Addr), PE (blkP X s H scope (compEnvC scope cl C X.env) fp) elt te) (hs : ∀ x, foldedSetIterable iter X.env x = pure x := by intro _; rfl) :
    PE X (.ListComp elt [⟨tg, iter, [], 0⟩] scope pos) (tLc wi g tYes te (own.map (·.2))) := by
  constructor
  intro pins s σ H Q I h
  rw [eval_ListComp]
  have caps : ∀ y ∈ scope.names, y.2 = .free → ∃ c, X.env.cells.lookup y.1 = some c := by
    intro y hy e
    rcases bk.free y hy e with z | z
    · exact I.ok.has _ (.inl z)
    · exact I.ok.has _ (.inr z)
  refine wpAny_comprehension_free rfl hs (closure_ok caps) bk.kind (fun y hy e => by rw [bk.uniq y hy, e]) (thn (hi.run pins s σ H _ I h) fun _ s1 hx => thn hx ?_)
  rintro itv s2 ⟨it, fp, tn, J, H2, rfl, I2, T, st2, f2, q⟩
  refine wpAny_newObj_type (newEnv_comp ?_) (by show 0 ≤ sizeLine; decide)
  -- the new list stands at D, the block's names at C
  obtain ⟨D, hD⟩ : ∃ D, D = s2.heap.objs.size := ⟨_, rfl⟩
  rw [← hD]
  have nD : H2 D = none := I2.hok.fresh (Nat.le_of_eq hD.symm)
  obtain ⟨W, ⟨m0, w0⟩, turn⟩ := q D nD
  obtain ⟨s3, hs3⟩ : ∃ s3 : Shared, s3 = { s2 with heap := s2.heap.push { cls := .type "list", data := .seq ([] : List Value).toArray } } := ⟨_, rfl⟩
  rw [← hs3]
  have k23 : ∀ b o, s2.heap.get? b = some o → s3.heap.get? b = some o := fun b o e => by rw [hs3]; exact Heap.get?_push_of_some _ e
  have I3 : Inv X pins σ (upd H2 D (.lst [])) s3 := by
    rw [hs3]
    refine I2.laid (t' := s2.toks) (fun b o e => Heap.get?_push_of_some _ e) (Nat.le_of_eq hD.symm) ⟨Nat.zero_le _, [], 0, .nil, ?_⟩
    rw [hD]
    exact Heap.get?_push_size _ rfl
  have old : ∀ b ∈ fp, b < s2.heap.objs.size := fun b hb => let ⟨_, e, _⟩ := T.obj _ _ st2 b hb; Heap.lt_size e
  have f3 : ∀ b ∈ fp, FpOk X pins (upd H2 D (.lst [])) b ∧ b < s3.heap.objs.size := by
    intro b hb
    obtain ⟨g0, g1⟩ := f2 b hb
    refine ⟨⟨?_, g1⟩, ?_⟩
    · rw [upd_ne (by rw [hD]; exact Nat.ne_of_lt (old b hb))]
      exact g0
    · rw [hs3]
      show b < (s2.heap.push _).objs.size
      rw [Heap.size_push]
      exact Nat.lt_succ_of_lt (old b hb)
  have st3 : tn 0 s3.heap := T.keep _ _ _ st2 fun b _ o e => k23 b o e
  obtain ⟨H3, hH3⟩ : ∃ H3 : Hp, H3 = upd H2 D (.lst []) := ⟨_, rfl⟩
  rw [← hH3] at I3 f3 w0
  have I4 := block_start I3 bk hN f3
  have pg := hg s3 H3 s3.heap.objs.size (cellsFrom (s3.heap.objs.size + 1) scope.names (cloFrom X.env.cells scope.names [])) fp
  have pe := he s3 H3 s3.heap.objs.size (cellsFrom (s3.heap.objs.size + 1) scope.names (cloFrom X.env.cells scope.names [])) fp
  show codeAny _ _ (.compStart (.ListComp elt [⟨tg, iter, [], 0⟩] scope pos) 0 (.ref it) (.ref D) (compEnvC scope (cellsFrom (s3.heap.objs.size + 1) scope.names (cloFrom X.env.cells scope.names [])) s3.heap.objs.size X.env))
    (compPost (model X.prog X.w) X.A X.xe none (EP X pins σ Q) (.ref D) s3.heap.objs.size) { s3 with heap := pushCells (s3.heap.push { cls := .type "dict", data := .dict #[] }) scope.names }
  obtain ⟨ce, hce⟩ : ∃ ce, ce = compEnvC scope (cellsFrom (s3.heap.objs.size + 1) scope.names (cloFrom X.env.cells scope.names [])) s3.heap.objs.size X.env := ⟨_, rfl⟩
  rw [← hce] at I4 pg pe ⊢
  have cL : ce.locals = s3.heap.objs.size := by rw [hce]; rfl
  obtain ⟨s4, hs4⟩ : ∃ s4 : Shared, s4 = { s3 with heap := pushCells (s3.heap.push { cls := .type "dict", data := .dict #[] }) scope.names } := ⟨_, rfl⟩
  rw [← hs4] at I4 ⊢
  have k34 : ∀ b o, s3.heap.get? b = some o → s4.heap.get? b = some o := fun b o e => by rw [hs4]; exact pushCells_keeps _ _ _ _ (Heap.get?_push_of_some _ e)
  have I5 : Inv (blkP X s3 H3 scope ce fp) [] (wipe σ (own.map (·.2))) H3 s4 := by
    refine Inv.bear I4 fun p hp => ?_
    obtain ⟨e1, e2, e3, e4, e5⟩ := I3.pin p (List.mem_append_left _ hp)
    refine ⟨k34 _ _ e1, e2, ?_, fun hm => ?_, e5⟩
    · rw [cL]
      exact Nat.ne_of_lt (Heap.lt_size e1)
    · rcases List.mem_cons.mp (I3.stkSub _ hm) with z | z
      · exact e3 z
      · exact e4 z
  have hotB : L2H.HotC (blkP X s3 H3 scope ce fp) := hot
  have st4 : tn 0 s4.heap := T.keep _ _ _ st3 fun b _ o e => k34 b o e
  have steady : ∀ {σ' : L2.St} {H' : Hp} {s' : Shared}, Inv (blkP X s3 H3 scope ce fp) [] σ' H' s' → (∀ b ∈ fp, H' b = none) → ∀ b ∈ fp, FpOk (blkP X s3 H3 scope ce fp) [] H' b := by
    intro σ' H' s' Z hn b hb
    refine ⟨hn b hb, (Z.ok.exf b hb).1, Z.ok.exfs b hb, .inl hb, fun x c e => (Z.ok.exf b hb).2 x c e, fun p hp => ?_⟩
    obtain ⟨_, _, _, _, _, last⟩ := (f3 b hb).1
    exact last p (List.mem_append_left _ (by simpa using hp))
  have loop : codeAny (model X.prog X.w) X.A (.compLoop (.ListComp elt [⟨tg, iter, [], 0⟩] scope pos) 0 (.ref it) (.ref D) ce) (compPost (model X.prog X.w) X.A X.xe none (EP X pins σ Q) (.ref D) s3.heap.objs.size) s4 := by
    refine compLoop_any (fun n z => ∃ i H', Inv (blkP X s3 H3 scope ce fp) [] (wipe σ (own.map (·.2))) H' z ∧ tn i z.heap ∧ (∀ b ∈ fp, H' b = none) ∧ W i n H') ?_ m0 ⟨0, H3, I5, st4, fun b hb => (f3 b hb).1.1, w0⟩
    rintro n s5 ⟨i, H5, J5, st5, n5, w5⟩
    rcases turn i n H5 w5 with ⟨stop, ends⟩ | ⟨go, Nx, hNx, step⟩
    · refine thnF (T.done (blkP X s3 H3 scope ce fp) rfl rfl rfl hotB i [] s5 _ H5 (fun _ _ => False) J5 (steady J5 n5) st5 stop) ?_
      rintro r s6 ⟨rfl, J6⟩
      have J7 : Inv X pins σ H5 s6 := I3.call' (ch := fp) J6.os J6.base J6.hok J6.bare fun b hb => by
        obtain ⟨_, z1, _, z3, z4, z5⟩ := (f3 b hb).1
        exact ⟨z3, z1, z4, z5⟩
      have fC : H5 s3.heap.objs.size = none := by
        have z : H5 ce.locals = none := J6.free
        rwa [cL] at z
      obtain ⟨m, hn, _⟩ := J6.loc
      have hn' : s6.heap.Ns ce.locals m := hn
      rw [cL] at hn'
      obtain ⟨y0, y1, y2, y3, y4, y5⟩ := I3.fpOk (H' := H5) (Nat.le_refl _) fC
      exact ⟨m, hn', fun h'' sb => ⟨.ref D, H5, J7.turned (t' := s6.toks) (fun b o hb e => (sb.2 b hb).trans e) y0 y1 y3 y4 y5, rfl, ends⟩⟩
    · refine thnF (T.item (blkP X s3 H3 scope ce fp) rfl rfl rfl hotB i [] s5 _ H5 (fun _ _ => False) J5 (steady J5 n5) st5 go) ?_
      rintro r s6 ⟨u, rfl, h6⟩
      refine thnF h6 ?_
      rintro _ s7 ⟨x, H7, J7, r7, y7, st7, n7⟩
      have P7 := J7.pinned (steady J7 n7) (T.obj _ _ st7)
      refine thnF (pg.run _ s7 _ H7 x u _ P7 r7 (step x H7 y7)) ?_
      rintro _ s8 ⟨σ8, H8, J8, same8, q8⟩
      refine thnF (wpAny_tests_nil (Q := fun (b : Bool) z => b = true ∧ z = s8) ⟨rfl, rfl⟩) ?_
      rintro b s9 ⟨rfl, rfl⟩
      have q9 : te σ8 H8 _ := q8
      rw [if_pos rfl]
      refine thnF (pe.run _ _ σ8 H8 _ J8 q9) ?_
      rintro z s10 ⟨yv, H10, J10, r10, acc, hD10, hz10, nx⟩
      refine app_ok (X := blkP X s3 H3 scope ce fp) J10 hD10 hz10 r10 fun s11 J11 => ?_
      obtain ⟨m', hm, w'⟩ := hNx _ nx
      have pinB : ∀ b ∈ fp, ∀ o, s7.heap.get? b = some o → s11.heap.get? b = some o ∧ (upd H10 D (.lst (acc ++ [yv]))) b = none := fun b hb o e =>
        let z := J11.pin (b, o) (List.mem_append_right _ (List.mem_append_right _ (mem_pinsAt hb e)))
        ⟨z.1, z.2.1⟩
      refine ⟨m', hm, i + 1, _, (J11.unpinned (pins := [])).weak (by rw [← same8, wipe_length]) (fun j v e => ?_), T.keep _ _ _ st7 fun b hb o e => (pinB b hb o e).1, fun b hb => ?_, w'⟩
      · rw [← same8] at e
        exact (wipe_some e).1
      · obtain ⟨o, e, _⟩ := T.obj _ _ st7 b hb
        exact (pinB b hb o e).2
  exact codeAny_compStart_list loop (T.self X.A 0 _ _ _ st4 loop)
end Nv
set_option Elab.async false
set_option linter.all false
set_option maxRecDepth 100000
set_option maxHeartbeats 4000000
/-! A def that may be called anywhere, within an except suite too; there its argument may be the exception that is handled. -/
namespace Nv
open PySem PySem.Spec PyProof.Rows L2

/-- the context of such a def's body -/
abbrev cxA (P : Program) (w : World) (K : PySem.W.Frag) (mg : Str → Option Value) (base : Heap) (N : List Str) (qual : Str) (scope : Scope) (f : Addr) (cd : Value) (A : Around) (outer : List Env) (s : Shared) (H : Hp) : Cx :=
  { cxOf CX0 P w K mg base N qual scope f cd A outer s H E0 with calm := false, xe := fun _ _ => False }
structure FnA (P : Program) (w : World) (K : PySem.W.Frag) (mg : Str → Option Value) (base : Heap) (k : Nat) (f : Addr) (fd : FuncData) (ps : List Str) (sp : Sp) : Prop where
  many : ∀ vs H Q E, sp vs H Q E → vs.length = ps.length
  does : ∀ (A : Around) (outer : List Env) (s : Shared) (H : Hp) (ar : Args) (us : List Value) (vs : List V) (Q : VK),
    L2H.RoomH k A → Env0 P w K mg base A outer s H → BindsTo s fd ar (ps.zip us) → Vals vs us → sp vs H Q E0 →
    codeAny (model P w) A (.call (.ref f) ar) (CR CX0 outer P w H s Q E0) s

section
variable {P : Program} {w : World} {K : PySem.W.Frag} {mg : Str → Option Value} {base : Heap}
theorem FnA.made {x qual : Str} {st : Stmt} {f : Addr} {fd : FuncData} {N ps : List Str} {k : Nat} {sp : Sp} (F : Fun K x qual st f fd) (S : FnScope N ps (defScope st))
    (many : ∀ vs H Q E, sp vs H Q E → vs.length = ps.length)
    (body : ∀ (cdv : Value) (A : Around) (outer : List Env) (s : Shared) (H : Hp) (vs : List V) (Q : VK),
      L2H.RoomH k (A.deeper (envOfC qual (defScope st) s.heap.objs.size f cdv)) → sp vs H Q E0 →
      ∃ t, PSs (cxA P w K mg base N qual (defScope st) f cdv A outer s H) (defBody st) t ∧ t { nx := fun _ H' => Q .non H', rt := Q } (start N vs) H) :
    FnA P w K mg base (k + 1) f fd ps sp := by
  obtain ⟨oc, od, kV, doc, pm, an, cdv, ct, osl, rfl, lk, hcd⟩ := F.ex
  constructor
  · exact many
  intro A outer s H ar us vs Q room env hb rel want
  obtain ⟨t, der, hq⟩ := body cdv A outer s H vs Q (room.deeper _) want
  have inK : K.In s.heap := env.mod.kin.keeps fun b o z => (env.bs b o z).1
  have nolim : s.heap.NoLimit := env.mod.nolimit.keeps fun b o z => (env.bs b o z).1
  refine Att.call_fn inK nolim lk hcd room.depth hb (all_kinds S us) (fun s1 ic => ?_) S.co S.gen S.kind
  -- the state at the entry, read with nothing handled; then as it is
  have env' : Env0 P w K mg base { A with handled := none } outer s H := { frames := env.frames, mod := env.mod, bs := env.bs, bsz := env.bsz, funs := env.funs, frf := env.frf, hok := env.hok, bare := env.bare }
  have J := inv_start (CX := CX0) (E := E0) (N := N) S rfl env' (many _ _ _ _ want) rel ic
  have o := J.ok
  have o' : (cxA P w K mg base N qual (defScope st) f cdv A outer s H).Ok := { mod := o.mod, kind := o.kind, glob := o.glob, blt := o.blt, above := o.above, inj := o.inj, has := o.has, cab := o.cab, hd := fun z => Bool.noConfusion (show false = true from z), frames := o.frames, stk := o.stk, exf := o.exf, bs := o.bs, bsz := o.bsz, noex := o.noex, exfs := o.exfs, funs := o.funs, frf := o.frf }
  have J' : Inv (cxA P w K mg base N qual (defScope st) f cdv A outer s H) [] (start N vs) H s1 := { ok := o', os := J.os, bare := J.bare, base := J.base, loc := J.loc, cell := J.cell, free := J.free, freeC := J.freeC, pin := J.pin, hok := J.hok, len := J.len }
  refine wpAny_mono (der.run [] s1 _ H _ J' hq) ?_ fun _ _ z => z.elim
  rintro (_ | _ | _ | u) s' z
  · obtain ⟨σ', H', Z, q⟩ := z
    exact ⟨.non, H', Z.os, Z.bare, Z.base, Z.hok, rfl, q⟩
  · obtain ⟨_, _, _, q⟩ := z
    exact q.elim
  · obtain ⟨_, _, _, q⟩ := z
    exact q.elim
  · obtain ⟨v, σ', H', Z, r, q⟩ := z
    exact ⟨v, H', Z.os, Z.bare, Z.base, Z.hok, r, q⟩
end

section
variable {X : Cx} {k : Nat} {f : Addr} {fd : FuncData} {y : Str} {sp : Sp} {x : Str} {p pos : Pos} {e : Expr} {te : TE}
def oneA (R : V → Hp → Prop) : List V → Hp → Prop
  | [v], H => R v H
  | _, _ => False
theorem oneA_of {R : V → Hp → Prop} {vs : List V} {H : Hp} (h : oneA R vs H) : ∃ v, vs = [v] ∧ R v H := by
  rcases vs with _ | ⟨v, _ | ⟨_, _⟩⟩
  · exact h.elim
  · exact ⟨v, rfl, h⟩
  · exact h.elim
/-- x(e) -/
theorem pe_callA (F : FnA X.prog X.w X.K X.mg X.base k f fd [y] sp) (hr : L2H.RoomH k X.A) (hg : Gl X x) (hm : X.mg x = some (.ref f)) (hk : PySem.W.keepIn X.K (.ref f) = true) (hb : Binds X.K fd [y] []) (he : PE X e te)
    (hs : starEach (e :: []) X.env = (false, eval e X.env) :: starEach [] X.env := by rfl) (hpl : (backTo pos (starEach [] X.env)).any (·.1) = false := by rfl) (hdb : (x == ("__debug__" : Str)) = false := by decide) :
    PE X (.Call (.Name x p) [e] [] pos) (fun σ H Q => te σ H fun v H1 => sp [v] H1 Q E0) := by
  constructor
  intro pins s σ H Q I h
  refine wpAny_Call_Name_kw (ld_glob I hg hm (PySem.W.callWith_K (h₀ := X.base) I.ok.mod.kin hk (thn ((pa_cons he pa_nil hs).run pos pins s σ H (oneA fun v H1 => sp [v] H1 Q E0) I h) ?_) hs hpl) hdb)
  rintro us s1 ⟨vs, H1, I1, r, q0⟩
  obtain ⟨v, rfl, q⟩ := oneA_of q0
  have b := hb s1 us I1.kIn (by rw [List.append_nil, ← r.length]; rfl)
  rw [List.append_nil] at b
  refine ⟨I1.kIn, wpAny_call (codeAny_mono (F.does X.A X.stack s1 H1 ⟨us, []⟩ us [v] Q hr I1.env0 b r q) ?_)⟩
  rintro (z | (_ | _ | _ | u)) s2 hz
  · exact hz.elim
  · exact hz.elim
  · exact hz.elim
  · exact hz.elim
  · exact I1.after hz
/-- the very object at a -/
def pinO (a : Addr) (oe : Obj) : HO := .ext fun h => h.get? a = some oe
theorem pinO_ne {a : Addr} {oe : Obj} : (∀ xs, pinO a oe ≠ .tup xs) ∧ (∀ o u, pinO a oe ≠ .frz o u) ∧ (∀ ps, pinO a oe ≠ .tbl ps) ∧ ∀ y, pinO a oe ≠ .own y := by
  refine ⟨fun xs z => ?_, fun o u z => ?_, fun ps z => ?_, fun y z => ?_⟩
  · exact nomatch (show HO.ext _ = HO.tup xs from z)
  · exact nomatch (show HO.ext _ = HO.frz o u from z)
  · exact nomatch (show HO.ext _ = HO.tbl ps from z)
  · exact nomatch (show HO.ext _ = HO.own y from z)
/-- x(n), n the exception that is handled -/
theorem pe_callHot {a : Addr} {oe : Obj} {pn : List (Addr × Obj)} (nb : X.base.get? a = none) (F : FnA X.prog X.w X.K X.mg X.base k f fd [y] sp) (hr : L2H.RoomH k (X.A.mark (some (.ref a)))) (hg : Gl X x) (hm : X.mg x = some (.ref f)) (hk : PySem.W.keepIn X.K (.ref f) = true)
    (hb : Binds X.K fd [y] []) (he : PE (X.suite a ((a, oe) :: pn)) e te)
    (hs : starEach (e :: []) X.env = (false, eval e X.env) :: starEach [] X.env := by rfl) (hpl : (backTo pos (starEach [] X.env)).any (·.1) = false := by rfl) (hdb : (x == ("__debug__" : Str)) = false := by decide) :
    PE (X.suite a ((a, oe) :: pn)) (.Call (.Name x p) [e] [] pos) (fun σ H Q => te σ H fun v H1 => v = .ref a ∧ (H1 a = none → sp [.ref a] (upd H1 a (pinO a oe)) (fun r H2 => H2 a = some (pinO a oe) ∧ Q r (del H2 a)) E0)) := by
  constructor
  intro pins s σ H Q I h
  refine wpAny_Call_Name_kw (ld_glob I hg hm (PySem.W.callWith_K (h₀ := X.base) I.ok.mod.kin hk (thn ((pa_cons he pa_nil hs).run pos pins s σ H (oneA fun v H1 => v = .ref a ∧ (H1 a = none → sp [.ref a] (upd H1 a (pinO a oe)) (fun r H2 => H2 a = some (pinO a oe) ∧ Q r (del H2 a)) E0)) I h) ?_) hs hpl) hdb)
  rintro us s1 ⟨vs, H1, I1, r, q0⟩
  obtain ⟨v, rfl, rfl, q⟩ := oneA_of q0
  obtain ⟨ha, na, nL, nF, nc⟩ := I1.pin (a, oe) (List.mem_append_left _ List.mem_cons_self)
  have q := q na
  have b := hb s1 us I1.kIn (by rw [List.append_nil, ← r.length]; rfl)
  rw [List.append_nil] at b
  obtain ⟨n1, n2, n3, n4⟩ := @pinO_ne a oe
  have apart : ∀ {c : Addr} {o : HO}, H1 c = some o → c ≠ a := fun z e => by
    rw [e, na] at z
    cases z
  have up : ∀ {c : Addr} {o : HO}, H1 c = some o → upd H1 a (pinO a oe) c = some o := fun z => by rw [upd_ne (apart z)]; exact z
  have fr : a ∉ frs X.stack := fun hm => (List.mem_cons.mp (I1.stkSub a hm)).elim nL nF
  have ok2 : HOk X.prog X.w (upd H1 a (pinO a oe)) s1.heap := by
    intro c u z
    by_cases hc : c = a
    · subst hc
      rw [upd_same] at z
      cases z
      exact ⟨ha, ⟨oe, ha⟩, fun _ _ y k => k _ y⟩
    · rw [upd_ne hc] at z
      exact (I1.hok c u z).stay (fun _ _ _ y => y) (fun _ y => up y) fun _ _ y => up y
  have e0 := I1.env0
  have env : Env0 X.prog X.w X.K X.mg X.base (X.A.mark (some (.ref a))) X.stack s1 (upd H1 a (pinO a oe)) := {
    frames := e0.frames, mod := e0.mod, bsz := e0.bsz, funs := e0.funs, hok := ok2, bare := e0.bare
    bs := fun c o z => ⟨(e0.bs c o z).1, by
      have ne : c ≠ a := fun y => by rw [y, nb] at z; cases z
      rw [upd_ne ne]
      exact (e0.bs c o z).2⟩
    frf := fun c hc => by
      have ne : c ≠ a := fun e => fr (by rw [← e]; exact hc)
      rw [upd_ne ne]
      exact e0.frf c hc }
  refine ⟨I1.kIn, wpAny_call (codeAny_mono (F.does (X.A.mark (some (.ref a))) X.stack s1 _ ⟨us, []⟩ us [.ref a] _ hr env b r q) ?_)⟩
  rintro (z | (_ | _ | _ | u)) s2 hz
  · exact hz.elim
  · exact hz.elim
  · exact hz.elim
  · exact hz.elim
  obtain ⟨v, H2, os, bare, un, hok, rv, hp, q2⟩ := hz
  have ha2 : s2.heap.get? a = some oe := (hok a _ hp).1
  have dl : ∀ {c : Addr} {o : HO}, c ≠ a → H2 c = some o → del H2 a c = some o := fun n z => by rw [del_ne n]; exact z
  have U : Un (frs X.stack) [] H1 (del H2 a) s1.heap s2.heap := {
    keep := fun c o z n nf nx => by
      by_cases hc : c = a
      · subst hc
        rw [ha] at z
        cases z
        exact ha2
      · exact un.keep c o z (by rw [upd_ne hc]; exact n) nf nx
    slot := fun c o z n hf nx => by
      have hc : c ≠ a := fun e => fr (e ▸ hf)
      exact un.slot c o z (by rw [upd_ne hc]; exact n) hf nx
    free := fun c o z n nx => by
      by_cases hc : c = a
      · rw [hc]
        exact del_same
      · rw [del_ne hc]
        exact un.free c o z (by rw [upd_ne hc]; exact n) nx
    there := un.there
    tups := fun c xs z => dl (apart z) (un.tups c xs (up z))
    frzs := fun c o u z => dl (apart z) (un.frzs c o u (up z))
    tbls := fun c ps z => let ⟨m, e⟩ := un.tbls c ps (up z); ⟨m, dl (apart z) e⟩ }
  have ok3 : HOk X.prog X.w (del H2 a) s2.heap := by
    intro c u z
    have hc : c ≠ a := fun e => by
      rw [e, del_same] at z
      cases z
    rw [del_ne hc] at z
    have other : ∀ {d : Addr} {o : HO}, H2 d = some o → pinO a oe ≠ o → d ≠ a := fun {d o} z1 n e => by
      rw [e, hp] at z1
      exact n (Option.some.inj z1)
    exact (hok c u z).stay (fun _ _ _ y => y) (fun d y => dl (other y (n4 c)) y) fun d xs y => dl (other y (n1 xs)) y
  exact ⟨v, del H2 a, I1.call' (ch := []) os U ok3 bare (fun _ z => nomatch z), rv, q2⟩
end
end Nv
set_option Elab.async false
set_option linter.all false
set_option maxRecDepth 100000
set_option maxHeartbeats 4000000
/-! What the written part says of an own exception class, as one look. -/
namespace Nv
open PySem PySem.Spec PyProof.Rows L2

def shapeB (K : PySem.W.Frag) (C : Addr) : Bool := match K.lookup C with
  | some ⟨.type "type", _, .cls cd, sl⟩ => (match cd.mro, sl.toList with
    | .ref D :: bm, [_, _, _, _, some (.builtin n), _] => D == C && (n == "ValueError.__new__" && (!cd.hasDel && (PySem.HandSPX.refsVE bm && cd.hasDict)))
    | _, _ => false)
  | _ => false
theorem shape_of {K : PySem.W.Frag} {C : Addr} (z : shapeB K C = true) :
    ∃ nm q N bs bm sn sub ab col dd k0 k1 k2 k3 k5, K.lookup C = some (excClassObj nm q C N bs bm true sn sub ab col dd k0 k1 k2 k3 k5 "ValueError.__new__") ∧ PySem.HandSPX.refsVE bm = true := by
  unfold shapeB at z
  split at z
  · rename_i dd cd sl ho
    split at z
    · rename_i D bm k0 k1 k2 k3 n k5 hm hs
      rw [Bool.and_eq_true, Bool.and_eq_true, Bool.and_eq_true, Bool.and_eq_true, beq_iff_eq, beq_iff_eq, Bool.not_eq_true'] at z
      obtain ⟨rfl, rfl, hdel, hb, hh⟩ := z
      obtain ⟨nm, bs, mro, ns, qn, hd, sn, sub, ab, col, del⟩ := cd
      dsimp only at hm hdel hh
      subst hm hdel hh
      obtain ⟨sl⟩ := sl
      simp only at hs
      subst hs
      exact ⟨nm, qn, ns, bs, bm, sn, sub, ab, col, dd, k0, k1, k2, k3, k5, ho, hb⟩
    · cases z
  · cases z
def nameB (r : Option PySem.W.CFound) (C : Addr) : Bool := match r with
  | some (.get g a o t) => g == .builtin "getset_descriptor.__get__" && (a == .builtin "type.__name__" && (o == .ref C && t == .type "type"))
  | _ => false
theorem nameB_of {r : Option PySem.W.CFound} {C : Addr} (z : nameB r C = true) : r = some (.get (.builtin "getset_descriptor.__get__") (.builtin "type.__name__") (.ref C) (.type "type")) := by
  unfold nameB at z
  split at z
  · simp only [Bool.and_eq_true, beq_iff_eq] at z
    obtain ⟨rfl, rfl, rfl, rfl⟩ := z
    rfl
  · cases z
/-- all that is asked of the class at C, its __init__ at fI -/
def classB (K : PySem.W.Frag) (C fI : Addr) : Bool :=
  shapeB K C && (PySem.W.findIn K (.ref C) "__setattr__" == some (some (.builtin "object.__setattr__")) && (PySem.W.subIn K (.ref C) (.type "BaseException") == some true && (PySem.W.typeIn K (.ref C) == some (.type "type") &&
  (PySem.W.keepIn K (.ref C) && (PySem.W.findIn K (.ref C) "__init__" == some (some (.ref fI)) && (PySem.W.findIn K (.ref C) "value" == some none && ((PySem.W.clsIn K C).isSome &&
  (PySem.W.findIn K (.ref C) "__getattribute__" == some (some (.builtin "BaseException.__getattribute__")) && (PySem.W.findIn K (.ref C) "__getattr__" == some none && (PySem.W.findIn K (.ref C) "__class__" == some (some (.builtin "object.__class__")) &&
  (PySem.W.mroIn K C (.type "object") == some true && (PySem.W.hasDictIn K C && (PySem.W.findIn K (.ref C) "name" == some none && (PySem.W.readsIn K C (.type "type") &&
  ((PySem.W.nameIn K C).isSome && nameB (PySem.W.findCls K (.ref C) (.type "type") "__name__") C)))))))))))))))
def metaB (K : PySem.W.Frag) (fI : Addr) : Bool := PySem.W.typeIn K (.ref fI) == some (.type "function") && (PySem.W.specialIn K (.builtin "object.__class__") "__get__" == some (some (.builtin "getset_descriptor.__get__")) && PySem.W.takesIn K (.builtin "object.__class__") == some true)
structure Xc (K : PySem.W.Frag) (C fI : Addr) : Prop where
  mx : MkX K C fI
  cl : XCls K C
  fl : XfC K C
theorem class_of {K : PySem.W.Frag} {C fI : Addr} (z : classB K C fI = true) (m : metaB K fI = true) : Xc K C fI := by
  unfold classB at z
  unfold metaB at m
  simp only [Bool.and_eq_true, beq_iff_eq] at z m
  obtain ⟨z1, z2, z3, z4, z5, z6, z7, z8, z9, z10, z11, z12, z13, z14, z15, z16, z17⟩ := z
  obtain ⟨m1, m2, m3⟩ := m
  exact ⟨⟨⟨shape_of z1, z2, z3, z4, z5⟩, z6, m1, z7, z14, ⟨z9, z10, z3, z8, z11, m2, m3, z12, z15, z4, nameB_of z17, Option.isSome_iff_exists.mp z16⟩⟩, ⟨z8, z9, z10, z3, z11, m2, m3, z12⟩, ⟨z9, z10, z3, z13⟩⟩
/-- the address of a class of the module -/
def addrIn (K : PySem.W.Frag) (n : Str) : Addr := match PySem.W.nsIn K mainGlobals n with
  | some (some (.ref a)) => a
  | _ => 0
def namedB (K : PySem.W.Frag) (n : Str) : Bool := PySem.W.nsIn K mainGlobals n == some (some (.ref (addrIn K n)))
theorem named_of {K : PySem.W.Frag} {h : Heap} {mg : Str → Option Value} {n : Str} (X : K.In h) (G : h.Ns mainGlobals mg) (z : namedB K n = true) : mg n = some (.ref (addrIn K n)) := PySem.W.mg_of X G (beq_iff_eq.mp z)
end Nv
set_option Elab.async false
set_option linter.all false
set_option maxRecDepth 100000
set_option maxHeartbeats 4000000
/-! raise C(e) where nothing is handled; readings that hang on what a suite holds. -/
namespace Nv
open PySem PySem.Spec PyProof.Rows L2

theorem PSs.all {X : Cx} {ι : Type} {p : ι → Prop} {t : ι → TS} {st : List Stmt} (i : ι) (hi : p i) (h : PSs X st (t i)) : PSs X st (fun D σ H => ∀ i, p i → t i D σ H) :=
  ⟨fun pins s σ H D I q => h.run pins s σ H D I (q i hi)⟩
theorem takesN0 {X : Cx} : L2N.Takes X (fun _ _ _ _ => False) := fun _ _ ⟨_, _, _, _, _, _, _, _, _, _, _, _, _, _, _, _, w⟩ => w.elim

section
variable {X : Cx} {C fI : Addr} {k : Nat} {fd : FuncData} {x : Str} {p pos : Pos} {e : Expr} {te : TE}
def xdQ (C : Addr) (Q : XK) (v : V) (H1 : Hp) : Prop := ∀ dx n, H1 dx = none → Q (.ref C) (some dx) (upd H1 dx (.xd (xf n v)))
theorem pmk_mkx (T : MkX X.K C fI) (F1 : FnOk X.prog X.w X.K X.mg X.base CX0 k fI fd ["self", "value"] (spIni X.K)) (hr : Room (k + 1) X.A) (hb : Binds X.K fd ["self", "value"] []) (hg : Gl X x) (hm : X.mg x = some (.ref C)) (he : PE X e te)
    (hs : starEach (e :: []) X.env = (false, eval e X.env) :: starEach [] X.env := by rfl) (hpl : (backTo pos (starEach [] X.env)).any (·.1) = false := by rfl) (hdb : (x == ("__debug__" : Str)) = false := by decide) :
    L2N.PMk X (.Call (.Name x p) [e] [] pos) (fun σ H Q => te σ H fun v H1 => xdQ C Q v H1) := by
  intro pins s σ H Q I h
  obtain ⟨nm, q, N, bs, bm, sn, sub, ab, col, dd, k0, k1, k2, k3, k5, hC, hbm⟩ := T.ox.cls
  refine wpAny_Call_Name_kw (ld_glob I hg hm (PySem.W.callWith_K (h₀ := X.base) I.ok.mod.kin T.ox.kC (thn ((pa_cons he pa_nil hs).run pos pins s σ H (oneA fun v H1 => xdQ C Q v H1) I h) ?_) hs hpl) hdb)
  rintro us ⟨hp, g, dr, tk, os⟩ ⟨vs, H1, I1, r1, q1⟩
  obtain ⟨v, rfl, q2⟩ := oneA_of q1
  refine ⟨I1.kIn, ?_⟩
  cases r1 with
  | cons rv rr =>
    cases rr
    rename_i u
    obtain ⟨a, ha⟩ : ∃ a, a = hp.objs.size + 1 := ⟨_, rfl⟩
    have h2 : ((hp.push (PySem.W.kdv_tup [u])).push (PySem.HandSPX.excO C hp.objs.size)).get? a = some (PySem.HandSPX.excO C hp.objs.size) := by rw [ha]; heap_get
    have new : hp.objs.size ≤ a := by rw [ha]; exact Nat.le_succ _
    have kk : ∀ b o, hp.get? b = some o → ((hp.push (PySem.W.kdv_tup [u])).push (PySem.HandSPX.excO C hp.objs.size)).get? b = some o := fun _ _ z => Heap.get?_push_of_some _ (Heap.get?_push_of_some _ z)
    have J := I1.laid (t' := tk) (a := a) (o := exo a C none) (h' := (hp.push (PySem.W.kdv_tup [u])).push (PySem.HandSPX.excO C hp.objs.size)) kk new (exo_ok h2)
    have nH : H1 a = none := I1.hok.fresh new
    have want : spIni X.K [.ref a, v] (upd H1 a (exo a C none)) (fun z H2 => z = .non ∧ ∃ dx n, H1 dx = none ∧ dx ≠ a ∧ H2 = upd (upd (upd H1 a (exo a C none)) dx (exd dx (xf n v))) a (exo a C (some dx))) E0 := by
      refine ⟨_, C, v, rfl, T.ox, T.nov, T.nof, T.nmc, upd_same, fun dx n nd ne => ⟨rfl, dx, n, ?_, ne, rfl⟩⟩
      rw [upd_ne ne] at nd
      exact nd
    refine wpAny_call (PySem.HandSPX.call_own F.excBase_ValueError (fun Y => PySem.HandSPX.refsVE_contains Y bm hbm) (I1.kIn _ _ hC) (PySem.W.looks_findIn I1.kIn T.ini) (fun self => PySem.W.bind_fn I1.kIn self T.tyI) (by show 1 ≤ sizeLine; decide) ?_)
    rw [← ha]
    refine codeAny_mono (F1.run _ X.stack _ _ ⟨[.ref a, u], []⟩ [.ref a, u] [.ref a, v] _ E0 (hr.make C [u] []) (J.env0.make C [u] []) (hb _ [.ref a, u] J.kIn rfl) (.cons rfl (.cons rv .nil)) want) ?_
    rintro (z | (_ | _ | _ | r)) s' hz
    · exact hz.elim
    · exact hz.elim
    · exact hz.elim
    · exact hz.elim
    · obtain ⟨v', H2, os2, bare2, un2, hok2, rv', ev, dx, n, nd, ne, eH⟩ := hz
      subst ev
      obtain ⟨hh, g2, d2, t2, os'⟩ := s'
      have ea : H2 a = some (exo a C (some dx)) := by rw [eH]; exact upd_same
      have ed : H2 dx = some (exd dx (xf n v)) := by rw [eH, upd_ne ne]; exact upd_same
      obtain ⟨t0, G, J3, kG, ge, hoe, na⟩ := mk_end0 (d2 := d2) (t2 := t2) I1 new kk un2 hok2 os2 bare2 ea ed nd
      have eq : upd (del H2 a) dx (.xd (xf n v)) = upd H1 dx (.xd (xf n v)) := by
        funext b
        by_cases e1 : b = dx
        · rw [e1, upd_same, upd_same]
        · rw [upd_ne e1, upd_ne e1]
          by_cases e2 : b = a
          · rw [e2, del_same, nH]
          · rw [del_ne e2, eH, upd_ne e2, upd_ne e1, upd_ne e2]
      rw [eq] at J3 na
      exact ⟨rv', a, _, _, ⟨G, g2, d2, t2, os'⟩, _, .ref C, some dx, rfl, J3, kG, ge, hoe, ⟨rfl, rfl, fun vs e => by cases e; rfl⟩, rfl, rfl, na, rfl, bare2, raises_own T.ox.exC T.ox.tyC, q2 dx n nd⟩
end

/-- lists of truths are data -/
theorem dp_bits {K : PySem.W.Frag} {H : Hp} : ∀ bs : List Bool, DpAll K H (bs.map V.bl) (bs.map PyData.bool)
  | [] => .nil
  | b :: r => .cons (.bl b) (dp_bits r)
end Nv
set_option Elab.async false
set_option linter.all false
set_option maxRecDepth 100000
set_option maxHeartbeats 4000000
/-! How long a shown datum is at most. -/
namespace Nv
open PySem PySem.Spec PyProof.Rows L2

theorem textFrom_le : ∀ (ts : List Str) (k : Nat) (acc : Str), (textFrom k acc ts).length ≤ acc.length + piled ts
  | [], k, acc => by show acc.length ≤ _; omega
  | t :: r, k, acc => by
    have ih := textFrom_le r (k + 1) (acc ++ (if k > 0 then ", " else "" : String) ++ t)
    show (textFrom (k + 1) (acc ++ (if k > 0 then ", " else "" : String) ++ t) r).length ≤ _
    rw [strLen_append, strLen_append] at ih
    have e : piled (t :: r) = t.length + 2 + piled r := by simp [piled]
    have c : (Str.ofString (if k > 0 then ", " else "" : String)).length ≤ 2 := by
      split
      · decide
      · decide
    rw [e]
    have ih' : (textFrom (k + 1) (acc ++ (if k > 0 then ", " else "" : String) ++ t) r).length ≤ acc.length + (Str.ofString (if k > 0 then ", " else "" : String)).length + t.length + piled r := ih
    omega
theorem listText_le (ts : List Str) : (listText ts).length ≤ piled ts + 2 := by
  unfold listText
  rw [strLen_append]
  have h := textFrom_le ts 0 "["
  have e : (("[" : String) : Str).length = 1 := rfl
  have e2 : (("]" : String) : Str).length = 1 := rfl
  omega
theorem tupleText_le (ts : List Str) : (tupleText ts).length ≤ piled ts + 3 := by
  unfold tupleText
  rw [strLen_append, strLen_append]
  have c : (Str.ofString (if ts.length == 1 then ",)" else ")" : String)).length ≤ 2 := by
    split
    · decide
    · decide
  have e : (("(" : String) : Str).length = 1 := rfl
  by_cases h : ts = []
  · subst h
    exact Nat.le_of_ble_eq_true rfl
  · have j := join_length_add ts h
    have c' : ((if ts.length == 1 then ",)" else ")" : String) : Str).length ≤ 2 := c
    omega
theorem intText_le {i : Int} (h : i.natAbs < 10 ^ 40) : (Str.ofString (toString i)).length ≤ 41 := by
  have e := int_text_length_le10 (k := 40) (by decide) h
  rw [PySem.ofString_length]
  omega

theorem nice_non : Nice .none := ⟨rfl, by decide, by decide, fun h => nomatch h⟩
theorem nice_bl (b : Bool) : Nice (.bool b) := by
  cases b
  · exact ⟨rfl, by decide, by decide, fun h => nomatch h⟩
  · exact ⟨rfl, by decide, by decide, fun h => nomatch h⟩
theorem log_lt {i : Int} (h : i.natAbs < 10 ^ 40) : i.natAbs.log2 < 1920 := by
  by_cases z : i.natAbs = 0
  · rw [z]
    decide
  · have a : i.natAbs.log2 < 140 := (Nat.log2_lt z).mpr (Nat.lt_trans h (by decide))
    omega
theorem nice_int {i : Int} (h : i.natAbs < 10 ^ 40) : Nice (.int i) := by
  refine ⟨?_, by show 0 ≤ 60; decide, ?_, fun h => nomatch h⟩
  · simp only [PyData.showable]
    exact decide_eq_true (log_lt h)
  · show (Str.ofString (toString i)).length ≤ sizeLine
    exact Nat.le_trans (intText_le h) (by decide)
theorem reprText_le {t : Str} (h : t.length ≤ 1000) (hc : ∀ c ∈ t.cps.toList, c < 200) : (reprText t).length ≤ 10 * t.length + 2 := StrLaws.reprText_len t fun c hm => Nat.lt_trans (hc c hm) (by decide)
theorem nice_str {t : Str} (h : t.length ≤ 1000) (hc : ∀ c ∈ t.cps.toList, c < 200) : Nice (.str t) := by
  refine ⟨rfl, by show 0 ≤ 60; decide, ?_, fun h => nomatch h⟩
  show (reprText t).length ≤ sizeLine
  have := reprText_le h hc
  exact Nat.le_trans this (Nat.le_trans (show 10 * t.length + 2 ≤ 10002 by omega) (by decide))
/-- ints in a row -/
def intsOk (xs : List Int) : Prop := ∀ x ∈ xs, x.natAbs < 10 ^ 40
theorem piled_ints : ∀ {xs : List Int}, intsOk xs → piled (PyData.shownAll (xs.map PyData.int)) ≤ 43 * xs.length
  | [], _ => Nat.le_refl _
  | x :: r, h => by
    have ih := piled_ints (xs := r) fun y hy => h y (List.mem_cons_of_mem _ hy)
    have e := intText_le (h x List.mem_cons_self)
    show piled (Str.ofString (toString x) :: PyData.shownAll (r.map PyData.int)) ≤ _
    rw [piled_cons, List.length_cons]
    omega
theorem shows_ints : ∀ {xs : List Int}, intsOk xs → PyData.showableAll (xs.map PyData.int) = true
  | [], _ => rfl
  | x :: r, h => by
    show (PyData.showable (.int x) && PyData.showableAll (r.map PyData.int)) = true
    rw [shows_ints (xs := r) fun y hy => h y (List.mem_cons_of_mem _ hy), (nice_int (h x List.mem_cons_self)).shows]
    rfl
theorem deep_ints : ∀ xs : List Int, PyData.depthAll (xs.map PyData.int) = 0
  | [] => rfl
  | x :: r => by
    show max (PyData.depth (.int x)) (PyData.depthAll (r.map PyData.int)) = 0
    rw [deep_ints r]
    rfl
theorem flat_ints : ∀ xs : List Int, PyData.hasDictAll (xs.map PyData.int) = false
  | [] => rfl
  | x :: r => by
    show (PyData.hasDict (.int x) || PyData.hasDictAll (r.map PyData.int)) = false
    rw [flat_ints r]
    rfl
/-- one nice thing ahead of ints, in a list -/
theorem nice_row {d : PyData} {xs : List Int} (n : Nice d) (nd : d.hasDict = false) (ld : d.shown.length ≤ 20000) (dd : d.depth ≤ 40) (h : intsOk xs) (l : xs.length ≤ 1000) : Nice (.list (d :: xs.map PyData.int)) := by
  refine ⟨?_, ?_, ?_, fun z => ?_⟩
  · show (PyData.showable d && PyData.showableAll (xs.map PyData.int)) = true
    rw [n.shows, shows_ints h]
    rfl
  · show (max d.depth (PyData.depthAll (xs.map PyData.int))) + 1 ≤ 60
    rw [deep_ints]
    omega
  · show (listText (d.shown :: PyData.shownAll (xs.map PyData.int))).length ≤ sizeLine
    have a := listText_le (d.shown :: PyData.shownAll (xs.map PyData.int))
    have b := piled_ints h
    rw [piled_cons] at a
    exact Nat.le_trans a (Nat.le_trans (show _ ≤ 100000 by omega) (by decide))
  · have e : PyData.hasDict (.list (d :: xs.map PyData.int)) = false := by
      show (d.hasDict || PyData.hasDictAll (xs.map PyData.int)) = false
      rw [nd, flat_ints]
      rfl
    rw [e] at z
    cases z
theorem dv_ints {H : Hp} : ∀ xs : List Int, DVs H (xs.map V.int) (xs.map PyData.int)
  | [] => .nil
  | x :: r => .cons (.int x) (dv_ints r)
theorem nice_pair {t : Str} (h : t.length ≤ 1000) (hc : ∀ c ∈ t.cps.toList, c < 200) : Nice (.tuple [.str t, .none]) := by
  refine ⟨rfl, (by show max 0 (max 0 0) + 1 ≤ 60; decide), ?_, fun z => nomatch z⟩
  show (tupleText [reprText t, Str.ofString "None"]).length ≤ sizeLine
  have a := tupleText_le [reprText t, Str.ofString "None"]
  have b := reprText_le h hc
  rw [piled_cons, piled_cons, piled_nil] at a
  have e : (Str.ofString "None").length = 4 := rfl
  exact Nat.le_trans a (Nat.le_trans (show _ ≤ 20000 by omega) (by decide))
theorem nice_empty : Nice (.dict []) := ⟨rfl, by decide, by decide, fun _ => rfl⟩
theorem nice_nil : Nice (.list []) := ⟨rfl, by decide, by decide, fun z => nomatch z⟩
end Nv
set_option Elab.async false
set_option linter.all false
set_option maxRecDepth 100000
set_option maxHeartbeats 16000000
namespace V1
open PySem PySem.Spec PyProof.Rows L2 Nv

def top (i : Nat) : Stmt := PySem.Challenge.pw_nevercrossed_k04_figures_refused.main.body.getD i (.Pass ⟨0, 0, 0, 0⟩)
abbrev sCell : Stmt := top 20
abbrev sBox : Stmt := top 21
abbrev sTake : Stmt := top 22

/-- the box at p: its counter is at most m -/
def BoxAt (H : Hp) (p : Addr) (m : Int) : Prop := ∃ b0 b1 b2 : Int, H p = some (.lst [.int b0, .int b1, .int b2]) ∧ 0 ≤ b1 ∧ b1 < 2147483648 ∧ 0 ≤ b2 ∧ b2 ≤ m
/-- all but p is as it was -/
def But (p : Addr) (H H' : Hp) : Prop := ∀ c o, c ≠ p → H c = some o → H' c = some o

def spCell (K : PySem.W.Frag) : Sp := fun vs H Q _ => ∃ (a : Addr) (ns : List Int) (k : Int), vs = [.ref a, .int k] ∧ SqL K H a (ns.map V.int) ∧ 0 ≤ k ∧ k ≤ 100 ∧ ∀ n : Int, Q (.int n) H
def spBox : Sp := fun vs H Q _ => ∃ n : Int, vs = [.int n] ∧ ∀ p H', H p = none → Same H H' → BoxAt H' p 0 → Q (.ref p) H'
def spTake : Sp := fun vs H Q _ => ∃ (p : Addr) (m many : Int), vs = [.ref p, .int many] ∧ BoxAt H p m ∧ m ≤ 1000000 ∧ 0 < many ∧ many ≤ 100000 ∧
  ∀ r H', 0 ≤ r → r < many → BoxAt H' p (m + 1) → But p H H' → Q (.int r) H'

structure Txt0 (mg : Str → Option Value) : Prop where
  len : mg "len" = none
  max : mg "max" = none
section
variable {P : Program} {w : World} {K : PySem.W.Frag} {mg : Str → Option Value} {base : Heap}
theorem scCell : FnScope ["_law_script", "_law_k"] ["_law_script", "_law_k"] (defScope sCell) := ⟨rfl, rfl, rfl, by decide +kernel, rfl, by decide +kernel, by decide +kernel⟩
theorem ok_cell {f : Addr} {fd : FuncData} (F : Fun K "_law_cell_at" "_law_cell_at" sCell f fd) (T : Txt0 mg) : FnOk P w K mg base CX0 1 f fd ["_law_script", "_law_k"] (spCell K) := by
  refine F.ok scCell (fun vs H Q E h => ?_) (fun cdv A outer s H vs Q E hr h => ?_)
  · obtain ⟨a, ns, k, rfl, _⟩ := h
    rfl
  · obtain ⟨a, ns, k, rfl, hS, h0, h1, q⟩ := h
    refine ⟨_, pss_one (ps_ret (pe_ifExp (pt_cmpR op_lt (pv 1) (pe_callB call_len_seq (by rfl) T.len PySem.boot_len (pa_cons (pv 0) pa_nil)) (nomark _))
      (pe_ix ix_list (pv 0) (pv 1) (fun _ _ => rfl)) (pe_op op_add (pe_op op_mul pe_int (pv 1)) pe_int))), ?_⟩
    refine ⟨_, rfl, _, rfl, a, _, rfl, .inl hS, _, _, rfl, rfl, _, rfl, ?_⟩
    refine ite2 (fun lt => ?_) (fun _ => ?_)
    · have hl : k < ((ns.map V.int).length : Int) := of_decide_eq_true lt
      rw [List.length_map] at hl
      obtain ⟨j, rfl⟩ : ∃ j : Nat, k = j := ⟨k.toNat, by omega⟩
      have hj : j < ns.length := by omega
      refine ⟨_, rfl, _, rfl, a, _, _, .int ns[j], rfl, rfl, hS, atI_nat ?_, q _⟩
      rw [List.getElem?_map, List.getElem?_eq_getElem hj] <;> rfl
    · exact ⟨_, rfl, _, _, rfl, rfl, .inl ⟨by decide, by decide⟩, _, _, rfl, rfl, q _⟩

theorem scBox : FnScope ["_law_number"] ["_law_number"] (defScope sBox) := ⟨rfl, rfl, rfl, by decide +kernel, rfl, by decide +kernel, by decide +kernel⟩
theorem ok_box {f : Addr} {fd : FuncData} (F : Fun K "_law_box" "_law_box" sBox f fd) (T : Txt0 mg) : FnOk P w K mg base CX0 1 f fd ["_law_number"] spBox := by
  refine F.ok scBox (fun vs H Q E h => ?_) (fun cdv A outer s H vs Q E hr h => ?_)
  · obtain ⟨n, rfl, _⟩ := h
    rfl
  · obtain ⟨n, rfl, q⟩ := h
    refine ⟨_, pss_one (ps_ret (pe_lst (pa_cons (pe_callB (call_max2 rfl) (by rfl) T.max (by decide +kernel) (pa_cons pe_int (pa_cons (pe_op op_sub (pv 0) (pe_op op_pow pe_int pe_int)) pa_nil)))
      (pa_cons (pe_op op_mod (pv 0) pe_int) (pa_cons pe_int pa_nil))))), ?_⟩
    refine ⟨_, rfl, _, _, rfl, rfl, ⟨by decide, by decide, by decide⟩, _, _, rfl, rfl, _, _, rfl, _, rfl, _, _, rfl, rfl, (by show (0 : Int) < 2147483587; decide), (by show 3 ≤ sizeLine; decide), fun p hp => ?_⟩
    refine q p _ hp (fun b o e => by rw [upd_ne (ne_of_none e hp)]; exact e) ⟨_, _, _, upd_same, ?_, ?_, by decide, by decide⟩ <;> omega

theorem scTake : FnScope ["_law_box_here", "_law_many_here", "_law_digit", "_law_number"] ["_law_box_here", "_law_many_here"] (defScope sTake) := ⟨rfl, rfl, rfl, by decide +kernel, rfl, by decide +kernel, by decide +kernel⟩
theorem ok_take {f : Addr} {fd : FuncData} (F : Fun K "_law_take" "_law_take" sTake f fd) : FnOk P w K mg base CX0 1 f fd ["_law_box_here", "_law_many_here"] spTake := by
  refine F.ok scTake (fun vs H Q E h => ?_) (fun cdv A outer s H vs Q E hr h => ?_)
  · obtain ⟨p, m, many, rfl, _⟩ := h
    rfl
  · obtain ⟨p, m, many, rfl, ⟨b0, b1, b2, hp, l1, u1, l2, u2⟩, hm, m0, m1, q⟩ := h
    refine ⟨_, pss_cons (ps_if (pt_cmpR op_gt (pe_ix ix_list (pv 0) pe_int (fun _ _ => rfl)) pe_int (nomark _))
        (pss_cons (ps_set (i := 2) scTake.nd rfl (Or.inl rfl) (pe_op op_mod (pe_ix ix_list (pv 0) pe_int (fun _ _ => rfl)) (pv 1)))
        (pss_cons (ps_asg (pe_op op_fdiv (pe_ix ix_list (pv 0) pe_int (fun _ _ => rfl)) (pv 1)) (pg_sub (pv 0) pe_int set_list))
        (pss_one (ps_ret (pv 2))))) pss_nil)
      (pss_cons (ps_asg (pe_op op_add (pe_ix ix_list (pv 0) pe_int (fun _ _ => rfl)) pe_int) (pg_sub (pv 0) pe_int set_list))
      (pss_cons (ps_set (i := 3) scTake.nd rfl (Or.inl rfl) (pe_op op_mod (pe_op op_pow (pe_op op_add (pe_op op_add (pe_ix ix_list (pv 0) pe_int (fun _ _ => rfl)) (pe_op op_mul pe_int (pe_ix ix_list (pv 0) pe_int (fun _ _ => rfl)))) pe_int) pe_int) pe_int))
      (pss_cons (ps_set (i := 3) scTake.nd rfl (Or.inl rfl) (pe_op op_mod (pe_op op_pow (pe_op op_add (pv 3) (pe_op op_mul pe_int (pe_ix ix_list (pv 0) pe_int (fun _ _ => rfl)))) pe_int) pe_int))
      (pss_one (ps_ret (pe_op op_mod (pe_op op_fdiv (pv 3) pe_int) (pv 1))))))), ?_⟩
    have i0 : ∀ {x y z : V}, atI [x, y, z] 0 = some x := rfl
    have i1 : ∀ {x y z : V}, atI [x, y, z] 1 = some y := rfl
    have i2 : ∀ {x y z : V}, atI [x, y, z] 2 = some z := rfl
    refine ⟨_, rfl, p, _, _, _, rfl, rfl, SqL.of hp, i0, _, _, rfl, rfl, _, rfl, ?_⟩
    refine ite2 (fun _ => ?_) (fun _ => ?_)
    · refine ⟨_, rfl, p, _, _, _, rfl, rfl, SqL.of hp, i0, _, rfl, _, _, rfl, rfl, m0, ?_⟩
      refine ⟨_, rfl, p, _, _, _, rfl, rfl, SqL.of hp, i0, _, rfl, _, _, rfl, rfl, ⟨m0, by omega⟩, _, rfl, p, _, _, 0, rfl, rfl, hp, rfl, ?_⟩
      refine ⟨_, rfl, q _ _ (Int.emod_nonneg _ (by omega)) (Int.emod_lt_of_pos _ m0) ⟨_, _, _, upd_same, l1, u1, l2, by omega⟩ fun c o ne e => ?_⟩
      rw [upd_ne ne]
      exact e
    · refine ⟨_, rfl, p, _, _, _, rfl, rfl, SqL.of hp, i2, _, _, rfl, rfl, _, rfl, p, _, _, 2, rfl, rfl, hp, rfl, ?_⟩
      have hq : upd H p (.lst ([V.int b0, .int b1, .int b2].set 2 (.int (b2 + 1)))) p = some (.lst [.int b0, .int b1, .int (b2 + 1)]) := upd_same
      refine ⟨_, rfl, p, _, _, _, rfl, rfl, SqL.of hq, i1, _, rfl, p, _, _, _, rfl, rfl, SqL.of hq, i2, _, _, rfl, rfl, .inl ⟨by decide, by decide⟩, _, _, rfl, rfl, _, _, rfl, rfl, _, _, rfl, rfl, ⟨by decide, by decide, by omega⟩, _, _, rfl, rfl, (by show (0 : Int) < 2147483647; decide), ?_⟩
      have z1 : ∀ x : Int, 0 ≤ x % 2147483647 ∧ x % 2147483647 < 2147483647 := fun x => ⟨Int.emod_nonneg _ (by decide), Int.emod_lt_of_pos _ (by decide)⟩
      generalize hn : ((b1 + 6515 * (b2 + 1) + 1047) ^ (5 : Int).toNat) % 2147483647 = n1
      have b1' := z1 ((b1 + 6515 * (b2 + 1) + 1047) ^ (5 : Int).toNat)
      rw [hn] at b1'
      refine ⟨_, rfl, _, rfl, p, _, _, _, rfl, rfl, SqL.of hq, i2, _, _, rfl, rfl, .inl ⟨by decide, by decide⟩, _, _, rfl, rfl, _, _, rfl, rfl, ⟨by decide, by decide, by omega⟩, _, _, rfl, rfl, (by show (0 : Int) < 2147483587; decide), ?_⟩
      refine ⟨_, rfl, _, _, rfl, rfl, ⟨by decide, by decide⟩, _, rfl, _, _, rfl, rfl, m0, ?_⟩
      refine q _ _ (Int.emod_nonneg _ (by omega)) (Int.emod_lt_of_pos _ m0) ⟨_, _, _, hq, l1, u1, by omega, by omega⟩ fun c o ne e => ?_
      rw [upd_ne ne]
      exact e
end
end V1
set_option Elab.async false
set_option linter.all false
set_option maxRecDepth 100000
set_option maxHeartbeats 16000000
namespace V1
open PySem PySem.Spec PyProof.Rows L2 Nv
/-! ### what the questions ask, of data -/
def intish : PyData → Bool
  | .bool _ => true
  | .int _ => true
  | _ => false
def boolish : PyData → Bool
  | .bool _ => true
  | _ => false
def tupish : PyData → Bool
  | .tuple _ => true
  | _ => false
def strish : PyData → Bool
  | .str _ => true
  | _ => false
def intB : PyData → Bool
  | .int _ => true
  | _ => false
def pairB : PyData → Bool
  | .tuple [_, _] => true
  | _ => false
def cooB : PyData → Bool
  | .int i => decide (0 ≤ i) && decide (i ≤ 30)
  | _ => false
def ptB : PyData → Bool
  | .tuple [a, b] => cooB a && cooB b
  | _ => false
def dirOf (s : Str) : Bool := decide (s = "r") || (decide (s = "u") || (decide (s = "l") || decide (s = "d")))
def dirB : PyData → Bool
  | .str s => dirOf s
  | _ => false
/-- a def that asks one value and gives a truth -/
def spB (b : PyData → Bool) : Sp := fun vs H Q _ => ∃ v d, vs = [v] ∧ DV H v d ∧ ∀ H', Same H H' → Q (.bl (b d)) H'
theorem same0 (H : Hp) : Same H H := fun _ _ e => e

/-- the type's name of a datum -/
def tyN : PyData → String
  | .none => "NoneType"
  | .bool _ => "bool"
  | .int _ => "int"
  | .str _ => "str"
  | .list _ => "list"
  | .tuple _ => "tuple"
  | .dict _ => "dict"
theorem ty_of {K : PySem.W.Frag} {H : Hp} {v : V} {d : PyData} (h : DV H v d) : TyX K H v (.type (tyN d)) := by
  cases h with
  | non => exact .base .non
  | bl b => exact .base (.bl b)
  | int i => exact .base (.int i)
  | str x => exact .base (.str x)
  | lst h r => exact .base (.lst h)
  | tup h r => exact .base (.tup h)
  | emp h => exact .base (.dK h)
theorem kit_int (d : PyData) : kitB (tyN d) "int" = some (intish d) := by
  cases d
  · show kitB "NoneType" "int" = some false
    decide +kernel
  · show kitB "bool" "int" = some true
    decide +kernel
  · show kitB "int" "int" = some true
    decide +kernel
  · show kitB "str" "int" = some false
    decide +kernel
  · show kitB "list" "int" = some false
    decide +kernel
  · show kitB "tuple" "int" = some false
    decide +kernel
  · show kitB "dict" "int" = some false
    decide +kernel
theorem kit_bool (d : PyData) : kitB (tyN d) "bool" = some (boolish d) := by
  cases d
  · show kitB "NoneType" "bool" = some false
    decide +kernel
  · show kitB "bool" "bool" = some true
    decide +kernel
  · show kitB "int" "bool" = some false
    decide +kernel
  · show kitB "str" "bool" = some false
    decide +kernel
  · show kitB "list" "bool" = some false
    decide +kernel
  · show kitB "tuple" "bool" = some false
    decide +kernel
  · show kitB "dict" "bool" = some false
    decide +kernel
theorem kit_tuple (d : PyData) : kitB (tyN d) "tuple" = some (tupish d) := by
  cases d
  · show kitB "NoneType" "tuple" = some false
    decide +kernel
  · show kitB "bool" "tuple" = some false
    decide +kernel
  · show kitB "int" "tuple" = some false
    decide +kernel
  · show kitB "str" "tuple" = some false
    decide +kernel
  · show kitB "list" "tuple" = some false
    decide +kernel
  · show kitB "tuple" "tuple" = some true
    decide +kernel
  · show kitB "dict" "tuple" = some false
    decide +kernel
theorem kit_str (d : PyData) : kitB (tyN d) "str" = some (strish d) := by
  cases d
  · show kitB "NoneType" "str" = some false
    decide +kernel
  · show kitB "bool" "str" = some false
    decide +kernel
  · show kitB "int" "str" = some false
    decide +kernel
  · show kitB "str" "str" = some true
    decide +kernel
  · show kitB "list" "str" = some false
    decide +kernel
  · show kitB "tuple" "str" = some false
    decide +kernel
  · show kitB "dict" "str" = some false
    decide +kernel
theorem dv_tup {H : Hp} {v : V} {ds : List PyData} (h : DV H v (.tuple ds)) : ∃ a xs, v = .ref a ∧ H a = some (.tup xs) ∧ DVs H xs ds := by
  cases h with
  | tup h r => exact ⟨_, _, rfl, h, r⟩
theorem dv_pair {H : Hp} {v : V} {d e : PyData} (h : DV H v (.tuple [d, e])) : ∃ a x y, v = .ref a ∧ H a = some (.tup [x, y]) ∧ DV H x d ∧ DV H y e := by
  obtain ⟨a, xs, rfl, h1, r⟩ := dv_tup h
  cases r with
  | cons h2 r =>
    cases r with
    | cons h3 r =>
      cases r
      exact ⟨a, _, _, rfl, h1, h2, h3⟩
theorem pair_of {d : PyData} (h : pairB d = true) : ∃ a b, d = .tuple [a, b] := by
  cases d with
  | tuple ds =>
    rcases ds with _ | ⟨a, _ | ⟨b, _ | ⟨c, r⟩⟩⟩
    · cases h
    · cases h
    · exact ⟨a, b, rfl⟩
    · cases h
  | _ => cases h
theorem coo_of {d : PyData} (h : cooB d = true) : ∃ i : Int, d = .int i ∧ 0 ≤ i ∧ i ≤ 30 := by
  cases d with
  | int i =>
    have := Bool.and_eq_true_iff.mp (show (decide (0 ≤ i) && decide (i ≤ 30)) = true from h)
    exact ⟨i, rfl, of_decide_eq_true this.1, of_decide_eq_true this.2⟩
  | _ => cases h
theorem pt_of {d : PyData} (h : ptB d = true) : ∃ i j : Int, d = .tuple [.int i, .int j] ∧ 0 ≤ i ∧ i ≤ 30 ∧ 0 ≤ j ∧ j ≤ 30 := by
  cases d with
  | tuple ds =>
    rcases ds with _ | ⟨a, _ | ⟨b, _ | ⟨c, r⟩⟩⟩
    · cases h
    · cases h
    · have z := Bool.and_eq_true_iff.mp (show (cooB a && cooB b) = true from h)
      obtain ⟨i, rfl, i0, i1⟩ := coo_of z.1
      obtain ⟨j, rfl, j0, j1⟩ := coo_of z.2
      exact ⟨i, j, rfl, i0, i1, j0, j1⟩
    · cases h
  | _ => cases h
theorem dv_int {H : Hp} {v : V} {i : Int} (h : DV H v (.int i)) : v = .int i := by
  cases h
  rfl
theorem dv_str {H : Hp} {v : V} {i : Str} (h : DV H v (.str i)) : v = .str i := by
  cases h
  rfl
theorem dv_pt {H : Hp} {v : V} {i j : Int} (h : DV H v (.tuple [.int i, .int j])) : ∃ a, v = .ref a ∧ H a = some (.tup [.int i, .int j]) := by
  obtain ⟨a, x, y, rfl, h1, hx, hy⟩ := dv_pair h
  rw [dv_int hx, dv_int hy] at h1
  exact ⟨a, rfl, h1⟩
theorem sqt {K : PySem.W.Frag} {H : Hp} {a : Addr} {xs : List V} (h : H a = some (.tup xs)) : SqT K H a xs := .inl (.inl h)

mutual
theorem dv_dp {K : PySem.W.Frag} {H : Hp} : ∀ {v : V} {d : PyData}, DV H v d → d.hasDict = false → Dp K H v d
  | _, _, .non, _ => .non
  | _, _, .bl b, _ => .bl b
  | _, _, .int i, _ => .int i
  | _, _, .str x, _ => .str x
  | _, _, .lst h r, n => .lst (SqL.of h) (dvs_dp r (by simpa [PyData.hasDict] using n))
  | _, _, .tup h r, n => .tup (sqt h) (dvs_dp r (by simpa [PyData.hasDict] using n))
  | _, _, .emp h, n => by simp [PyData.hasDict] at n
theorem dvs_dp {K : PySem.W.Frag} {H : Hp} : ∀ {vs : List V} {ds : List PyData}, DVs H vs ds → PyData.hasDictAll ds = false → DpAll K H vs ds
  | _, _, .nil, _ => .nil
  | _, _, .cons (d := d) (ds := ds) h r, n => by
    have z : d.hasDict = false ∧ PyData.hasDictAll ds = false := by simpa [PyData.hasDictAll] using n
    exact .cons (dv_dp h z.1) (dvs_dp r z.2)
end
section
variable {X : Cx}
def rInT (K : PySem.W.Frag) : R2 := fun x y H Q => ∃ d ds, Dp K H x d ∧ Dp K H y (.tuple ds) ∧ SeqAt.shaped d = true ∧ SeqAt.shaped (.list ds) = true ∧ Q (.bl (ds.any fun z => PyData.eqv z d)) H
theorem op_inT (hu : X.A.units + 65 < cLine) : OpR X (compareOp .In) (rInT X.K) := by
  intro pins s σ H x y v u Q I rx ry h
  obtain ⟨d, ds, hd, he, sd, se, q⟩ := h
  obtain ⟨as, r1⟩ := Dp.reads I d x v hd rx
  obtain ⟨bs, r2⟩ := Dp.reads I (.tuple ds) y u he ry
  exact SeqAt.in_tuple_reads r2 r1 (SeqAt.canLay_of_shaped se) (SeqAt.canLay_of_shaped sd) (room_in_shaped sd hu) ⟨.bl _, H, I, rfl, q⟩
end

structure Ta (mg : Str → Option Value) : Prop where
  isi : mg "isinstance" = none
  int : mg "int" = none
  bool : mg "bool" = none
  tup : mg "tuple" = none
  str : mg "str" = none
  len : mg "len" = none
  last : ∃ t, mg "LAST" = some (.int 30 t)
/-- a def of the text, where it stands -/
structure At (K : PySem.W.Frag) (mg : Str → Option Value) (n : Str) (f : Addr) (fd : FuncData) (ps : List Str) : Prop where
  g : mg n = some (.ref f)
  k : PySem.W.keepIn K (.ref f) = true
  b : Binds K fd ps []
section
variable {P : Program} {w : World} {K : PySem.W.Frag} {mg : Str → Option Value} {base : Heap}
theorem intB_eq {d : PyData} : intB d = (intish d && !(boolish d)) := by cases d <;> rfl
theorem and_t {a b : Bool} (h : a = true) : (a && b) = b := by rw [h]; rfl
theorem and_f {a b : Bool} (h : ¬ a = true) : (a && b) = false := by cases a <;> simp_all
theorem tupish_of {d : PyData} (h : tupish d = true) : ∃ ds, d = .tuple ds := by
  cases d with
  | tuple ds => exact ⟨ds, rfl⟩
  | _ => cases h
theorem int_of {d : PyData} (h : intB d = true) : ∃ i, d = .int i := by
  cases d with
  | int i => exact ⟨i, rfl⟩
  | _ => cases h
theorem coo_int {d : PyData} (h : intB d = false) : cooB d = false := by
  cases d with
  | int i => cases h
  | _ => rfl
/-- a length asked: the datum is a pair, or not -/
theorem pair_len {ds : List PyData} (h : (!decide (V.int (ds.length : Int) = V.int 2)) = false) : ∃ da db, ds = [da, db] := by
  rcases ds with _ | ⟨a, _ | ⟨b, _ | ⟨c, r0⟩⟩⟩
  · cases h
  · cases h
  · exact ⟨a, b, rfl⟩
  · have := of_decide_eq_true (by simpa using h : decide (V.int (((a :: b :: c :: r0).length : Nat) : Int) = V.int 2) = true)
    have := V.int.inj this
    simp only [List.length_cons] at this
    omega
theorem pair_nolen {ds : List PyData} (h : (!decide (V.int (ds.length : Int) = V.int 2)) = true) : pairB (.tuple ds) = false := by
  rcases ds with _ | ⟨a, _ | ⟨b, _ | ⟨c, r0⟩⟩⟩
  · rfl
  · rfl
  · cases h
  · rfl
theorem ptB_pair {d : PyData} (h : pairB d = false) : ptB d = false := by
  cases d with
  | tuple ds =>
    rcases ds with _ | ⟨a, _ | ⟨b, _ | ⟨c, r⟩⟩⟩
    · rfl
    · rfl
    · cases h
    · rfl
  | _ => rfl
theorem pair_tup {d : PyData} (h : tupish d = false) : pairB d = false := by
  cases d with
  | tuple ds => cases h
  | _ => rfl
end
def xOf : PyData → Int
  | .tuple [.int x, .int _] => x
  | _ => 0
def yOf : PyData → Int
  | .tuple [.int _, .int y] => y
  | _ => 0
def stepB (p q : PyData) : Bool := (decide (xOf q - xOf p = 1) && decide (yOf q - yOf p = 0)) || (decide (xOf q - xOf p = 0) && decide (yOf q - yOf p = 1))
def edgeB : PyData → Bool
  | .tuple [p, q] => ptB p && (ptB q && stepB p q)
  | _ => false
theorem stay {H : Hp} {a b : Addr} {o u : HO} (h : H b = some u) (n : H a = none) : upd H a o b = some u := by
  rw [upd_ne (ne_of_none h n)]
  exact h
theorem shaped_str {z : Str} (h : PyData.strOk z = true) : SeqAt.shaped (.str z) = true := by simp [SeqAt.shaped, PyData.canLay0, PyData.depth, h]
open PySem PySem.Spec PyProof.Rows L2 Nv
/-! ### numbers: ints, and truths in their place -/
def numOf : PyData → Int
  | .int i => i
  | .bool b => if b = true then 1 else 0
  | _ => 0
def IsN (x : V) (i : Int) : Prop := x = .int i ∨ ∃ b : Bool, x = .bl b ∧ i = if b = true then 1 else 0
theorem isN_of {H : Hp} {v : V} {d : PyData} (h : DV H v d) (i : intish d = true) : IsN v (numOf d) := by
  cases h with
  | int k => exact .inl rfl
  | bl b => exact .inr ⟨b, rfl, rfl⟩
  | _ => cases i
section
variable {prog : Program} {w : World} {A : Around} {E : Value → Shared → Prop} {s : Shared} {Q : Value → Shared → Prop}
theorem gives_ge_bi (b : Bool) (a : Int) (t : Tok) : Gives (Builtin.«int.__ge__» ⟨[.bool b, .int a t], []⟩) (.val (Value.bool (decide ((if b = true then (1 : Int) else 0) ≥ a)))) :=
  .of_wp fun M A E s Q h => by obtain ⟨hp, g, d, tk, os⟩ := s; wp_walk; exact ⟨_, rfl, h⟩
theorem gives_le_bi (b : Bool) (a : Int) (t : Tok) : Gives (Builtin.«int.__le__» ⟨[.bool b, .int a t], []⟩) (.val (Value.bool (decide ((if b = true then (1 : Int) else 0) ≤ a)))) :=
  .of_wp fun M A E s Q h => by obtain ⟨hp, g, d, tk, os⟩ := s; wp_walk; exact ⟨_, rfl, h⟩
theorem gives_lt_bi (b : Bool) (a : Int) (t : Tok) : Gives (Builtin.«int.__lt__» ⟨[.bool b, .int a t], []⟩) (.val (Value.bool (decide ((if b = true then (1 : Int) else 0) < a)))) :=
  .of_wp fun M A E s Q h => by obtain ⟨hp, g, d, tk, os⟩ := s; wp_walk; exact ⟨_, rfl, h⟩
theorem le_ib {a : Int} {t : Tok} {b : Bool} (h : Q (.bool (decide (a ≤ if b = true then (1 : Int) else 0))) s) : wpAny (model prog w) A (compareOp .LtE (.int a t) (.bool b)) Q E s := by
  show wpAny _ A (richCompare .LtE _ _) Q E s
  exact SeqAt.rc_sub_first_or (typeIs_int s a t) rfl (by decide) F.sub_bool_int F.slot_bool_ge_refl
    (call_gives F.slot_bool_ge_refl rfl F.entry_int_ge (F.args_int_ge_2 _ _) (gives_ge_bi b a t) ⟨nofun, h⟩) (.inl rfl)
theorem le_bi {a : Int} {t : Tok} {b : Bool} (h : Q (.bool (decide ((if b = true then (1 : Int) else 0) ≤ a))) s) : wpAny (model prog w) A (compareOp .LtE (.bool b) (.int a t)) Q E s := by
  show wpAny _ A (richCompare .LtE _ _) Q E s
  exact SeqAt.rc_left_or rfl (typeIs_int s a t) (by decide) F.sub_int_bool F.slot_bool_le
    (call_gives F.slot_bool_le rfl F.entry_int_le (F.args_int_le_2 _ _) (gives_le_bi b a t) ⟨nofun, h⟩) (.inl rfl)
theorem lt_bi {a : Int} {t : Tok} {b : Bool} (h : Q (.bool (decide ((if b = true then (1 : Int) else 0) < a))) s) : wpAny (model prog w) A (compareOp .Lt (.bool b) (.int a t)) Q E s := by
  show wpAny _ A (richCompare .Lt _ _) Q E s
  exact SeqAt.rc_left_or rfl (typeIs_int s a t) (by decide) F.sub_int_bool F.slot_bool_lt
    (call_gives F.slot_bool_lt rfl F.entry_int_lt (F.args_int_lt_2 _ _) (gives_lt_bi b a t) ⟨nofun, h⟩) (.inl rfl)
end
/-- an int and a number -/
def rIN (g : Int → Int → V) : R2 := fun x y H Q => ∃ i j, x = .int i ∧ IsN y j ∧ Q (g i j) H
/-- a number and an int -/
def rNI (g : Int → Int → V) : R2 := fun x y H Q => ∃ i j, IsN x i ∧ y = .int j ∧ Q (g i j) H
section
variable {X : Cx}
theorem op_leIN : OpR X (compareOp .LtE) (rIN fun i j => .bl (decide (i ≤ j))) := by
  intro pins s σ H x y v u Q I rx ry h
  obtain ⟨i, j, rfl, hy, q⟩ := h
  obtain ⟨t, rfl⟩ := rx
  rcases hy with rfl | ⟨b, rfl, rfl⟩
  · obtain ⟨t', rfl⟩ := ry
    exact le_int ⟨.bl _, H, I, rfl, q⟩
  · cases ry
    exact le_ib ⟨.bl _, H, I, rfl, q⟩
theorem op_leNI : OpR X (compareOp .LtE) (rNI fun i j => .bl (decide (i ≤ j))) := by
  intro pins s σ H x y v u Q I rx ry h
  obtain ⟨i, j, hx, rfl, q⟩ := h
  obtain ⟨t, rfl⟩ := ry
  rcases hx with rfl | ⟨b, rfl, rfl⟩
  · obtain ⟨t', rfl⟩ := rx
    exact le_int ⟨.bl _, H, I, rfl, q⟩
  · cases rx
    exact le_bi ⟨.bl _, H, I, rfl, q⟩
theorem op_ltNI : OpR X (compareOp .Lt) (rNI fun i j => .bl (decide (i < j))) := by
  intro pins s σ H x y v u Q I rx ry h
  obtain ⟨i, j, hx, rfl, q⟩ := h
  obtain ⟨t, rfl⟩ := ry
  rcases hx with rfl | ⟨b, rfl, rfl⟩
  · obtain ⟨t', rfl⟩ := rx
    exact lt_int ⟨.bl _, H, I, rfl, q⟩
  · cases rx
    exact lt_bi ⟨.bl _, H, I, rfl, q⟩
theorem op_addNI : OpR X (binaryOp .Add) (rNI fun i j => .int (i + j)) := by
  intro pins s σ H x y v u Q I rx ry h
  obtain ⟨i, j, hx, rfl, q⟩ := h
  obtain ⟨t, rfl⟩ := ry
  rcases hx with rfl | ⟨b, rfl, rfl⟩
  · obtain ⟨t', rfl⟩ := rx
    exact add_int ⟨.int _, H, I.tok _, ⟨_, rfl⟩, q⟩
  · cases rx
    exact IntBool.add_bool_int ⟨.int _, H, I.tok _, ⟨_, rfl⟩, q⟩
theorem op_addIN : OpR X (binaryOp .Add) (rIN fun i j => .int (i + j)) := by
  intro pins s σ H x y v u Q I rx ry h
  obtain ⟨i, j, rfl, hy, q⟩ := h
  obtain ⟨t, rfl⟩ := rx
  rcases hy with rfl | ⟨b, rfl, rfl⟩
  · obtain ⟨t', rfl⟩ := ry
    exact add_int ⟨.int _, H, I.tok _, ⟨_, rfl⟩, q⟩
  · cases ry
    exact add_int_bool ⟨.int _, H, I.tok _, ⟨_, rfl⟩, q⟩
theorem op_mulIN : OpR X (binaryOp .Mult) (fun x y H Q => ∃ i j, x = .int i ∧ IsN y j ∧ (-(2 ^ 64) < i ∧ i < 2 ^ 64) ∧ Q (.int (i * j)) H) := by
  intro pins s σ H x y v u Q I rx ry h
  obtain ⟨i, j, rfl, hy, hc, q⟩ := h
  obtain ⟨t, rfl⟩ := rx
  rcases hy with rfl | ⟨b, rfl, rfl⟩
  · obtain ⟨t', rfl⟩ := ry
    exact mul_int ⟨.int _, H, I.tok _, ⟨_, rfl⟩, q⟩ (CMul.ok (.inl hc))
  · cases ry
    exact IntBool.mul_int_bool ⟨.int _, H, I.tok _, ⟨_, rfl⟩, q⟩
/-- x is True, x is False, of a number -/
theorem op_isB (c : Bool) : OpR X (compareOp .Is) (fun x y H Q => y = .bl c ∧ ((∃ i, x = .int i ∧ Q (.bl false) H) ∨ ∃ b, x = .bl b ∧ Q (.bl (decide (b = c))) H)) := by
  intro pins s σ H x y v u Q I rx ry h
  obtain ⟨rfl, h⟩ := h
  cases ry
  rcases h with ⟨i, rfl, q⟩ | ⟨b, rfl, q⟩
  · obtain ⟨t, rfl⟩ := rx
    exact wpAny_is_other rfl (fun z => nomatch z) ⟨.bl _, H, I, rfl, q⟩
  · cases rx
    refine wpAny_is_plain rfl ⟨.bl (decide (b = c)), H, I, ?_, q⟩
    show Value.bool (Value.bool b == Value.bool c) = Value.bool (decide (b = c))
    cases b <;> cases c <;> rfl
end
def spTr : Sp := fun vs H Q _ => ∃ x y d e, vs = [x, y] ∧ DV H x d ∧ DV H y e ∧ intish d = true ∧ intish e = true ∧ Q (.bl (boolish d || boolish e)) H
section
variable {P : Program} {w : World} {K : PySem.W.Frag} {mg : Str → Option Value} {base : Heap}
theorem isT {H : Hp} {x : V} {d : PyData} {B : Prop} {C : Bool → Prop} (h : DV H x d) (i : intish d = true) (q1 : boolish d = false → B) (q2 : ∀ b, d = .bool b → C b) :
    ((∃ i, x = .int i ∧ B) ∨ ∃ b, x = .bl b ∧ C b) := by
  cases h with
  | int k => exact .inl ⟨k, rfl, q1 rfl⟩
  | bl b => exact .inr ⟨b, rfl, q2 b rfl⟩
  | _ => cases i
theorem scT : FnScope ["x", "y"] ["x", "y"] (defScope (top 10)) := ⟨rfl, rfl, rfl, by decide +kernel, rfl, by decide +kernel, by decide +kernel⟩
theorem ok_truth {f : Addr} {fd : FuncData} (F : Fun K "_has_truth" "_has_truth" (top 10) f fd) : FnOk P w K mg base CX0 1 f fd ["x", "y"] spTr := by
  refine F.ok scT (fun vs H Q E h => by obtain ⟨x, y, d, e, rfl, _⟩ := h; rfl) (fun cdv A outer s H vs Q E hr h => ?_)
  obtain ⟨x, y, d, e, rfl, dx, dy, i1, i2, q⟩ := h
  refine ⟨_, pss_one (ps_ret (pe_or (pe_cmpR (op_isB true) (pv 0) pe_bl (nomark _)) (pe_or (pe_cmpR (op_isB false) (pv 0) pe_bl (nomark _)) (pe_or (pe_cmpR (op_isB true) (pv 1) pe_bl (nomark _)) (pe_one (pe_cmpR (op_isB false) (pv 1) pe_bl (nomark _))))))), ?_⟩
  refine ⟨_, rfl, rfl, isT dx i1 (fun n1 => ?_) fun b e1 => ?_⟩
  · refine ⟨_, rfl, _, rfl, rfl, isT dx i1 (fun n2 => ?_) fun b e1 => ?_⟩
    · rw [n1, Bool.false_or] at q
      refine ⟨_, rfl, _, rfl, rfl, isT dy i2 (fun n3 => ?_) fun b e2 => ?_⟩
      · refine ⟨_, rfl, _, rfl, rfl, isT dy i2 (fun n4 => ?_) fun b e2 => ?_⟩
        · rw [n4] at q
          exact q
        · subst e2
          cases n3
      · subst e2
        cases b with
        | true => exact ⟨_, rfl, q⟩
        | false =>
          refine ⟨_, rfl, _, rfl, rfl, isT dy i2 (fun n4 => by cases n4) fun b e2 => ?_⟩
          cases e2
          exact q
    · subst e1
      cases n1
  · subst e1
    cases b with
    | true => exact ⟨_, rfl, q⟩
    | false =>
      refine ⟨_, rfl, _, rfl, rfl, isT dx i1 (fun n4 => by cases n4) fun b e2 => ?_⟩
      cases e2
      exact ⟨_, rfl, q⟩
end
open PySem PySem.Spec PyProof.Rows L2 Nv
def flatP (d : PyData) : Prop := ∀ p r, d = .tuple [p, r] → r.hasDict = false ∧ SeqAt.shaped r = true
def numE : PyData → Int
  | .tuple [.tuple [a, b], .tuple [c, _]] => 2 * (31 * numOf a + numOf b) + (if numOf c = numOf a + 1 then 1 else 0)
  | _ => 0
/-- an edge has a number, all else None -/
def spNum : Sp := fun vs H Q _ => ∃ v d, vs = [v] ∧ DV H v d ∧ flatP d ∧ (edgeB d = false → ∀ H', Same H H' → Q .non H') ∧ (edgeB d = true → ∀ H', Same H H' → Q (.int (numE d)) H')
theorem edge_nopair {d : PyData} (h : pairB d = false) : edgeB d = false := by
  cases d with
  | tuple ds =>
    rcases ds with _ | ⟨a, _ | ⟨b, _ | ⟨c, r⟩⟩⟩
    · rfl
    · rfl
    · cases h
    · rfl
  | _ => rfl
theorem edge_nopt {p r : PyData} (h : ptB p = false) : edgeB (.tuple [p, r]) = false := by
  show (ptB p && _) = false
  rw [h, Bool.false_and]
theorem coo_ish {d : PyData} (h : intish d = false) : cooB d = false := by
  cases d with
  | int i => cases h
  | _ => rfl
theorem coo_num {d : PyData} (h : ¬ (0 ≤ numOf d ∧ numOf d ≤ 30)) : cooB d = false := by
  cases d with
  | int i =>
    refine Bool.eq_false_iff.mpr fun z => h ?_
    have := Bool.and_eq_true_iff.mp (show (decide (0 ≤ i) && decide (i ≤ 30)) = true from z)
    exact ⟨of_decide_eq_true this.1, of_decide_eq_true this.2⟩
  | _ => rfl
theorem pt_no1 {a b : PyData} (h : cooB a = false) : ptB (.tuple [a, b]) = false := by
  show (cooB a && cooB b) = false
  rw [h, Bool.false_and]
theorem pt_no2 {a b : PyData} (h : cooB b = false) : ptB (.tuple [a, b]) = false := by
  show (cooB a && cooB b) = false
  rw [h, Bool.and_false]
theorem ish_cases {d : PyData} (h : intish d = true) : (∃ i, d = .int i) ∨ ∃ b, d = .bool b := by
  cases d with
  | int i => exact .inl ⟨i, rfl⟩
  | bool b => exact .inr ⟨b, rfl⟩
  | _ => cases h
theorem ish_flat {d : PyData} (h : intish d = true) : d.hasDict = false := by
  rcases ish_cases h with ⟨i, rfl⟩ | ⟨b, rfl⟩ <;> rfl
theorem shaped_nn {a b : PyData} (ha : intish a = true) (hb : intish b = true) : SeqAt.shaped (.tuple [a, b]) = true := by
  rcases ish_cases ha with ⟨i, rfl⟩ | ⟨i, rfl⟩ <;> rcases ish_cases hb with ⟨j, rfl⟩ | ⟨j, rfl⟩ <;> first | rfl | exact (by decide : (true && (true && true) && decide (max 0 (max 0 0) + 1 ≤ 64)) = true)
theorem eqv_num {c a : PyData} (ha : intish a = true) : PyData.eqv c a = (intish c && decide (numOf c = numOf a)) := by
  rcases ish_cases ha with ⟨i, rfl⟩ | ⟨i, rfl⟩
  · cases c with
    | int k => rfl
    | bool k => rfl
    | _ => rfl
  · cases c with
    | int k => rfl
    | bool k => cases i <;> cases k <;> rfl
    | _ => rfl
theorem eqv_pr {c e a b : PyData} : PyData.eqv (.tuple [c, e]) (.tuple [a, b]) = (PyData.eqv c a && PyData.eqv e b) := by
  first
  | rfl
  | (simp [PyData.eqv, PyData.eqvAll]; done)
theorem eqv_pair {r a b : PyData} (h : PyData.eqv r (.tuple [a, b]) = true) : ∃ c e, r = .tuple [c, e] := by
  cases r with
  | tuple ds =>
    rcases ds with _ | ⟨c, _ | ⟨e, _ | ⟨g, r⟩⟩⟩
    · first | cases h | (simp [PyData.eqv, PyData.eqvAll] at h; done)
    · first | cases h | (simp [PyData.eqv, PyData.eqvAll] at h; done)
    · exact ⟨c, e, rfl⟩
    · first | cases h | (simp [PyData.eqv, PyData.eqvAll] at h; done)
  | _ => first | cases h | (simp [PyData.eqv] at h; done)
theorem eqv_two {r a b : PyData} (ha : intish a = true) (hb : intish b = true) (h : PyData.eqv r (.tuple [a, b]) = true) :
    ∃ c e, r = .tuple [c, e] ∧ intish c = true ∧ intish e = true ∧ numOf c = numOf a ∧ numOf e = numOf b := by
  obtain ⟨c, e, rfl⟩ := eqv_pair h
  rw [eqv_pr, eqv_num ha, eqv_num hb] at h
  simp only [Bool.and_eq_true, decide_eq_true_eq] at h
  exact ⟨c, e, rfl, h.1.1, h.2.1, h.1.2, h.2.2⟩
theorem coo_is {d : PyData} (h : intish d = true) (r : 0 ≤ numOf d ∧ numOf d ≤ 30) : cooB d = !boolish d := by
  rcases ish_cases h with ⟨i, rfl⟩ | ⟨b, rfl⟩
  · have r : 0 ≤ i ∧ i ≤ 30 := r
    show (decide (0 ≤ i) && decide (i ≤ 30)) = true
    rw [decide_eq_true r.1, decide_eq_true r.2]
    rfl
  · rfl
theorem num_big {d : PyData} (h : intish d = true) (r : 2 ≤ numOf d) : boolish d = false := by
  rcases ish_cases h with ⟨i, rfl⟩ | ⟨b, rfl⟩
  · rfl
  · cases b <;> exact absurd r (by decide)
theorem edge_is {a b c e : PyData} (ha : intish a = true) (hb : intish b = true) (hc : intish c = true) (he : intish e = true) (ra : 0 ≤ numOf a ∧ numOf a ≤ 30) (rb : 0 ≤ numOf b ∧ numOf b ≤ 30) (rc : 0 ≤ numOf c ∧ numOf c ≤ 30) (re : 0 ≤ numOf e ∧ numOf e ≤ 30)
    (st : (numOf c = numOf a ∧ numOf e = numOf b + 1) ∨ (numOf c = numOf a + 1 ∧ numOf e = numOf b)) : edgeB (.tuple [.tuple [a, b], .tuple [c, e]]) = !((boolish a || boolish b) || (boolish c || boolish e)) := by
  show ((cooB a && cooB b) && ((cooB c && cooB e) && stepB _ _)) = _
  rw [coo_is ha ra, coo_is hb rb, coo_is hc rc, coo_is he re]
  rcases ish_cases ha with ⟨i, rfl⟩ | ⟨i, rfl⟩
  · rcases ish_cases hb with ⟨j, rfl⟩ | ⟨j, rfl⟩
    · rcases ish_cases hc with ⟨k, rfl⟩ | ⟨k, rfl⟩
      · rcases ish_cases he with ⟨l, rfl⟩ | ⟨l, rfl⟩
        · show stepB _ _ = true
          show ((decide (k - i = 1) && decide (l - j = 0)) || (decide (k - i = 0) && decide (l - j = 1))) = true
          simp only [Bool.or_eq_true, Bool.and_eq_true, decide_eq_true_eq]
          have st : (k = i ∧ l = j + 1) ∨ (k = i + 1 ∧ l = j) := st
          omega
        · rfl
      · rfl
    · rfl
  · rfl
theorem edge_no {a b r : PyData} (ha : intish a = true) (hb : intish b = true) (n1 : ¬ (PyData.eqv r (.tuple [a, .int (numOf b + 1)]) = true ∧ numOf b < 30)) (n2 : ¬ (PyData.eqv r (.tuple [.int (numOf a + 1), b]) = true ∧ numOf a < 30)) : edgeB (.tuple [.tuple [a, b], r]) = false := by
  refine Bool.eq_false_iff.mpr fun z => ?_
  have z : (ptB (.tuple [a, b]) && (ptB r && stepB (.tuple [a, b]) r)) = true := z
  simp only [Bool.and_eq_true] at z
  obtain ⟨z1, z2, z3⟩ := z
  obtain ⟨i, j, e1, b1⟩ := pt_of z1
  obtain ⟨k, l, rfl, b2⟩ := pt_of z2
  cases e1
  rw [eqv_pr, eqv_num ha, eqv_num (show intish (.int _) = true from rfl)] at n1
  rw [eqv_pr, eqv_num hb, eqv_num (show intish (.int _) = true from rfl)] at n2
  have z3 : ((decide (k - i = 1) && decide (l - j = 0)) || (decide (k - i = 0) && decide (l - j = 1))) = true := z3
  simp only [Bool.or_eq_true, Bool.and_eq_true, decide_eq_true_eq] at z3
  have n1 : ¬ (((true && decide (k = i)) && (true && decide (l = j + 1))) = true ∧ j < 30) := n1
  have n2 : ¬ (((true && decide (k = i + 1)) && (true && decide (l = j))) = true ∧ i < 30) := n2
  simp only [Bool.true_and, Bool.and_eq_true, decide_eq_true_eq] at n1 n2
  omega
section
variable {P : Program} {w : World} {K : PySem.W.Frag} {mg : Str → Option Value} {base : Heap}
theorem spNum_len {n : Str} : ∀ (vs : List V) (H : Hp) (Q : VK) (E : XK), spNum vs H Q E → vs.length = [n].length := fun vs H Q E h => by
  obtain ⟨v, d, rfl, _⟩ := h
  rfl
theorem scEN : FnScope ["value", "point", "other", "x", "y", "number", "far_x", "far_y"] ["value"] (defScope (top 9)) := ⟨rfl, rfl, rfl, by decide +kernel, rfl, by decide +kernel, by decide +kernel⟩

theorem ok_enum {f fT : Addr} {fd fdT : FuncData} (F : Fun K "edge_number" "edge_number" (top 9) f fd) (T : Ta mg) (hS : ∃ t, mg "SIDE" = some (.int 31 t)) (GT : FnOk P w K mg base CX0 1 fT fdT ["x", "y"] spTr) (AT : At K mg "_has_truth" fT fdT ["x", "y"]) :
    FnOk P w K mg base CX0 3 f fd ["value"] spNum := by
  refine F.ok scEN spNum_len (fun cdv A outer s H vs Q E hr h => ?_)
  obtain ⟨v, d, rfl, dv, fl, qn, qi⟩ := h
  obtain ⟨tL, hL⟩ := T.last
  obtain ⟨tS, hS⟩ := hS
  have hu : (A.deeper (envOfC "edge_number" (defScope (top 9)) s.heap.objs.size f cdv)).units + 64 < cLine := by
    have := hr.un
    omega
  refine ⟨_, (pss_cons (ps_if (PW.pt (pw_or (pt_not (pt_val (pe_callB call_isi (by rfl) T.isi (by decide +kernel) (pa_cons (pv 0) (pa_cons (pe_bltn (v := .ty "tuple") (u := .type "tuple") (by rfl) T.tup (by decide +kernel) rfl) pa_nil))))) (pw_or1 (pt_cmpR op_ne (pe_callB call_len_seq (by rfl) T.len PySem.boot_len (pa_cons (pv 0) pa_nil)) pe_int (nomark _))))) (pss_one (ps_ret pe_non)) pss_nil)
    (pss_cons (ps_asg (pv 0) (pg_tup rfl (pgs_cons (pg_name (i := 1) scEN.nd rfl (Or.inl rfl)) (pgs_cons (pg_name (i := 2) scEN.nd rfl (Or.inl rfl)) pgs_nil))))
    (pss_cons (ps_if (PW.pt (pw_or (pt_not (pt_val (pe_callB call_isi (by rfl) T.isi (by decide +kernel) (pa_cons (pv 1) (pa_cons (pe_bltn (v := .ty "tuple") (u := .type "tuple") (by rfl) T.tup (by decide +kernel) rfl) pa_nil))))) (pw_or1 (pt_cmpR op_ne (pe_callB call_len_seq (by rfl) T.len PySem.boot_len (pa_cons (pv 1) pa_nil)) pe_int (nomark _))))) (pss_one (ps_ret pe_non)) pss_nil)
    (pss_cons (ps_asg (pv 1) (pg_tup rfl (pgs_cons (pg_name (i := 3) scEN.nd rfl (Or.inl rfl)) (pgs_cons (pg_name (i := 4) scEN.nd rfl (Or.inl rfl)) pgs_nil))))
    (pss_cons (ps_if (PW.pt (pw_or (pt_not (pt_val (pe_callB call_isi (by rfl) T.isi (by decide +kernel) (pa_cons (pv 3) (pa_cons (pe_bltn (v := .ty "int") (u := .type "int") (by rfl) T.int (by decide +kernel) rfl) pa_nil))))) (pw_or (pt_not (pt_val (pe_callB call_isi (by rfl) T.isi (by decide +kernel) (pa_cons (pv 4) (pa_cons (pe_bltn (v := .ty "int") (u := .type "int") (by rfl) T.int (by decide +kernel) rfl) pa_nil))))) (pw_or (pt_not (pt_chain op_leIN op_leNI pe_int (pv 3) (pe_glob (v := .int 30) rfl hL ⟨_, rfl⟩))) (pw_or1 (pt_not (pt_chain op_leIN op_leNI pe_int (pv 4) (pe_glob (v := .int 30) rfl hL ⟨_, rfl⟩)))))))) (pss_one (ps_ret pe_non)) pss_nil)
    (pss_cons (ps_if (PW.pt (pw_and (pt_cmpR (op_eqD hu) (pv 2) (pe_tup (pa_cons (pv 3) (pa_cons (pe_op op_addNI (pv 4) pe_int) pa_nil))) (by rfl)) (pw_and1 (pt_cmpR op_ltNI (pv 4) (pe_glob (v := .int 30) rfl hL ⟨_, rfl⟩) (nomark _)))))
      (pss_one (ps_set (i := 5) scEN.nd rfl (Or.inl rfl) (pe_op op_mul pe_int (pe_op op_addIN (pe_op op_mulIN (pe_glob (v := .int 31) rfl hS ⟨_, rfl⟩) (pv 3)) (pv 4)))))
      (pss_one (ps_if (PW.pt (pw_and (pt_cmpR (op_eqD hu) (pv 2) (pe_tup (pa_cons (pe_op op_addNI (pv 3) pe_int) (pa_cons (pv 4) pa_nil))) (by rfl)) (pw_and1 (pt_cmpR op_ltNI (pv 3) (pe_glob (v := .int 30) rfl hL ⟨_, rfl⟩) (nomark _)))))
      (pss_one (ps_set (i := 5) scEN.nd rfl (Or.inl rfl) (pe_op op_add (pe_op op_mul pe_int (pe_op op_addIN (pe_op op_mulIN (pe_glob (v := .int 31) rfl hS ⟨_, rfl⟩) (pv 3)) (pv 4))) pe_int))) (pss_one (ps_ret pe_non)))))
    (pss_cons (ps_if (PW.pt (pw_or (pt_cmpR op_ltNI (pv 3) pe_int (nomark _)) (pw_or1 (pt_cmpR op_ltNI (pv 4) pe_int (nomark _)))))
      (pss_cons (ps_asg (pv 2) (pg_tup rfl (pgs_cons (pg_name (i := 6) scEN.nd rfl (Or.inl rfl)) (pgs_cons (pg_name (i := 7) scEN.nd rfl (Or.inl rfl)) pgs_nil)))) (pss_one (ps_if (PW.pt (pw_or (pt_val (pe_call GT (hr.mono (by decide)) rfl AT.g AT.k AT.b .nil pass0 (pa_cons (pv 3) (pa_cons (pv 4) pa_nil)))) (pw_or1 (pt_val (pe_call GT (hr.mono (by decide)) rfl AT.g AT.k AT.b .nil pass0 (pa_cons (pv 6) (pa_cons (pv 7) pa_nil))))))) (pss_one (ps_ret pe_non)) pss_nil))) pss_nil)
    (pss_one (ps_ret (pv 5)))))))))), ?_⟩
  refine ⟨_, rfl, _, .ty "tuple", .type (tyN d), .type "tuple", _, rfl, .ty _, ty_of dv, kit_ty (kit_tuple d), _, rfl, ?_⟩
  cases e : tupish d with
  | false => exact qn (edge_nopair (pair_tup e)) H (same0 H)
  | true =>
    obtain ⟨ds, rfl⟩ := tupish_of e
    obtain ⟨a, xs, rfl, h1, r0⟩ := dv_tup dv
    refine ⟨_, rfl, a, xs, rfl, .inr (sqt h1), rfl, _, rfl, ?_⟩
    cases e1 : (!decide (V.int (xs.length : Int) = V.int 2)) with
    | true =>
      rw [r0.length] at e1
      exact qn (edge_nopair (pair_nolen e1)) H (same0 H)
    | false =>
      rw [r0.length] at e1
      obtain ⟨p, r, rfl⟩ := pair_len e1
      obtain ⟨a', vp, vr, ea, h1', hp, hvr⟩ := dv_pair dv
      cases ea
      obtain ⟨fr, sr⟩ := fl p r rfl
      refine ⟨_, rfl, a, _, rfl, sqt h1', rfl, _, _, rfl, _, _, rfl, rfl, ?_⟩
      refine ⟨_, rfl, _, .ty "tuple", .type (tyN p), .type "tuple", _, rfl, .ty _, ty_of hp, kit_ty (kit_tuple p), _, rfl, ?_⟩
      cases e2 : tupish p with
      | false => exact qn (edge_nopt (ptB_pair (pair_tup e2))) H (same0 H)
      | true =>
        obtain ⟨ps, rfl⟩ := tupish_of e2
        obtain ⟨b, ys, rfl, h2, r2⟩ := dv_tup hp
        refine ⟨_, rfl, b, ys, rfl, .inr (sqt h2), rfl, _, rfl, ?_⟩
        cases e3 : (!decide (V.int (ys.length : Int) = V.int 2)) with
        | true =>
          rw [r2.length] at e3
          exact qn (edge_nopt (ptB_pair (pair_nolen e3))) H (same0 H)
        | false =>
          rw [r2.length] at e3
          obtain ⟨dx, dy, rfl⟩ := pair_len e3
          obtain ⟨b', x, y, eb, h2', hx, hy⟩ := dv_pair hp
          cases eb
          refine ⟨_, rfl, b, _, rfl, sqt h2', rfl, _, _, rfl, _, _, rfl, rfl, ?_⟩
          refine ⟨_, rfl, _, .ty "int", .type (tyN dx), .type "int", _, rfl, .ty _, ty_of hx, kit_ty (kit_int dx), _, rfl, ?_⟩
          cases i1 : intish dx with
          | false => exact qn (edge_nopt (pt_no1 (coo_ish i1))) H (same0 H)
          | true =>
            refine ⟨_, rfl, _, .ty "int", .type (tyN dy), .type "int", _, rfl, .ty _, ty_of hy, kit_ty (kit_int dy), _, rfl, ?_⟩
            cases i2 : intish dy with
            | false => exact qn (edge_nopt (pt_no2 (coo_ish i2))) H (same0 H)
            | true =>
              have nX := isN_of hx i1
              have nY := isN_of hy i2
              refine ⟨_, rfl, _, _, rfl, nX, _, rfl, ite2 (fun x0 => ?_) (fun x0 => ?_)⟩
              · refine ⟨_, _, nX, rfl, _, rfl, ?_⟩
                cases x1 : decide (numOf dx ≤ 30) with
                | false => exact qn (edge_nopt (pt_no1 (coo_num fun z => of_decide_eq_false x1 z.2))) H (same0 H)
                | true =>
                  refine ⟨_, rfl, _, _, rfl, nY, _, rfl, ite2 (fun y0 => ?_) (fun y0 => ?_)⟩
                  · refine ⟨_, _, nY, rfl, _, rfl, ?_⟩
                    cases y1 : decide (numOf dy ≤ 30) with
                    | false => exact qn (edge_nopt (pt_no2 (coo_num fun z => of_decide_eq_false y1 z.2))) H (same0 H)
                    | true =>
                      have x0 : 0 ≤ numOf dx := of_decide_eq_true x0
                      have x1 : numOf dx ≤ 30 := of_decide_eq_true x1
                      have y0 : 0 ≤ numOf dy := of_decide_eq_true y0
                      have y1 : numOf dy ≤ 30 := of_decide_eq_true y1
                      refine ⟨_, rfl, _, rfl, _, rfl, _, _, nY, rfl, (by show 2 ≤ sizeLine; decide), fun p1 hp1 => ?_⟩
                      have s1 : Same H (upd H p1 (.tup [x, .int (numOf dy + 1)])) := fun b o e => stay e hp1
                      refine ⟨r, .tuple [dx, .int (numOf dy + 1)], dv_dp (hvr.more s1) fr, .tup (sqt upd_same) (.cons (dv_dp (hx.more s1) (ish_flat i1)) (.cons (.int _) .nil)), sr, shaped_nn i1 rfl, _, rfl, ite2 (fun q1 => ?_) (fun q1 => ?_)⟩
                      · refine ⟨_, rfl, _, _, nY, rfl, _, rfl, ite2 (fun w1 => ?_) (fun w1 => ?_)⟩
                        · have w1 : numOf dy < 30 := of_decide_eq_true w1
                          refine ⟨_, rfl, _, _, rfl, nX, (by decide), _, rfl, _, _, rfl, nY, _, _, rfl, rfl, .inl (by decide), ?_⟩
                          obtain ⟨c, e4, rfl, ic, ie, nc, ne⟩ := eqv_two i1 (show intish (.int _) = true from rfl) q1
                          have nc : numOf c = numOf dx := nc
                          have ne : numOf e4 = numOf dy + 1 := ne
                          have ed := edge_is (a := dx) (b := dy) (c := c) (e := e4) i1 i2 ic ie (by omega) (by omega) (by omega) (by omega) (by omega)
                          have hn : numE (.tuple [.tuple [dx, dy], .tuple [c, e4]]) = 2 * (31 * numOf dx + numOf dy) := by
                            show 2 * (31 * numOf dx + numOf dy) + (if numOf c = numOf dx + 1 then 1 else 0) = _
                            rw [if_neg (by omega)]
                            omega
                          have qv : edgeB (.tuple [.tuple [dx, dy], .tuple [c, e4]]) = true → ∀ H', Same H H' → Q (.int (2 * (31 * numOf dx + numOf dy))) H' := fun h H' s => by have := qi h H' s; rwa [hn] at this
                          obtain ⟨br, vc, ve, er, hbr, hc, he⟩ := dv_pair (hvr.more s1)
                          subst er
                          refine ⟨_, rfl, _, _, nX, rfl, _, rfl, ite2 (fun c1 => ?_) (fun c1 => ⟨_, rfl, _, _, nY, rfl, _, rfl, ite2 (fun c2 => ?_) (fun c2 => ?_)⟩)⟩
                          · refine ⟨_, rfl, br, _, rfl, sqt hbr, rfl, _, _, rfl, _, _, rfl, rfl, ?_⟩
                            refine ⟨_, rfl, _, rfl, x, y, dx, dy, rfl, hx.more s1, hy.more s1, i1, i2, _, rfl, ite2 (fun t1 => ?_) (fun t1 => ?_)⟩
                            · exact qn (by rw [ed, t1]; rfl) _ s1
                            · refine ⟨_, rfl, _, rfl, vc, ve, c, e4, rfl, hc, he, ic, ie, _, rfl, ite2 (fun t2 => ?_) (fun t2 => ?_)⟩
                              · exact qn (by rw [ed, t2, Bool.or_true]; rfl) _ s1
                              · exact ⟨_, rfl, qv (by rw [ed, (Bool.not_eq_true _).mp t1, (Bool.not_eq_true _).mp t2]; rfl) _ s1⟩
                          · refine ⟨_, rfl, br, _, rfl, sqt hbr, rfl, _, _, rfl, _, _, rfl, rfl, ?_⟩
                            refine ⟨_, rfl, _, rfl, x, y, dx, dy, rfl, hx.more s1, hy.more s1, i1, i2, _, rfl, ite2 (fun t1 => ?_) (fun t1 => ?_)⟩
                            · exact qn (by rw [ed, t1]; rfl) _ s1
                            · refine ⟨_, rfl, _, rfl, vc, ve, c, e4, rfl, hc, he, ic, ie, _, rfl, ite2 (fun t2 => ?_) (fun t2 => ?_)⟩
                              · exact qn (by rw [ed, t2, Bool.or_true]; rfl) _ s1
                              · exact ⟨_, rfl, qv (by rw [ed, (Bool.not_eq_true _).mp t1, (Bool.not_eq_true _).mp t2]; rfl) _ s1⟩
                          · have c1 : ¬ numOf dx < 2 := fun z => c1 (decide_eq_true z)
                            have c2 : ¬ numOf dy < 2 := fun z => c2 (decide_eq_true z)
                            exact ⟨_, rfl, qv (by rw [ed, num_big i1 (by omega), num_big i2 (by omega), num_big ic (by omega), num_big ie (by omega)]; rfl) _ s1⟩
                        · refine ⟨_, rfl, _, rfl, _, _, nX, rfl, _, rfl, (by show 2 ≤ sizeLine; decide), fun p2 hp2 => ?_⟩
                          have s2 : Same H (upd (upd H p1 (.tup [x, .int (numOf dy + 1)])) p2 (.tup [.int (numOf dx + 1), y])) := fun b o e => stay (s1 b o e) hp2
                          refine ⟨r, .tuple [.int (numOf dx + 1), dy], dv_dp (hvr.more s2) fr, .tup (sqt upd_same) (.cons (.int _) (.cons (dv_dp (hy.more s2) (ish_flat i2)) .nil)), sr, shaped_nn rfl i2, _, rfl, ite2 (fun q2 => ?_) (fun q2 => ?_)⟩
                          · refine ⟨_, rfl, _, _, nX, rfl, _, rfl, ite2 (fun w2 => ?_) (fun w2 => ?_)⟩
                            · have w2 : numOf dx < 30 := of_decide_eq_true w2
                              refine ⟨_, rfl, _, _, rfl, nX, (by decide), _, rfl, _, _, rfl, nY, _, _, rfl, rfl, .inl (by decide), _, _, rfl, rfl, ?_⟩
                              obtain ⟨c, e4, rfl, ic, ie, nc, ne⟩ := eqv_two (show intish (.int _) = true from rfl) i2 q2
                              have nc : numOf c = numOf dx + 1 := nc
                              have ne : numOf e4 = numOf dy := ne
                              have ed := edge_is (a := dx) (b := dy) (c := c) (e := e4) i1 i2 ic ie (by omega) (by omega) (by omega) (by omega) (by omega)
                              have hn : numE (.tuple [.tuple [dx, dy], .tuple [c, e4]]) = 2 * (31 * numOf dx + numOf dy) + 1 := by
                                show 2 * (31 * numOf dx + numOf dy) + (if numOf c = numOf dx + 1 then 1 else 0) = _
                                rw [if_pos (by omega)]
                              have qv : edgeB (.tuple [.tuple [dx, dy], .tuple [c, e4]]) = true → ∀ H', Same H H' → Q (.int (2 * (31 * numOf dx + numOf dy) + 1)) H' := fun h H' s => by have := qi h H' s; rwa [hn] at this
                              obtain ⟨br, vc, ve, er, hbr, hc, he⟩ := dv_pair (hvr.more s2)
                              subst er
                              refine ⟨_, rfl, _, _, nX, rfl, _, rfl, ite2 (fun c1 => ?_) (fun c1 => ⟨_, rfl, _, _, nY, rfl, _, rfl, ite2 (fun c2 => ?_) (fun c2 => ?_)⟩)⟩
                              · refine ⟨_, rfl, br, _, rfl, sqt hbr, rfl, _, _, rfl, _, _, rfl, rfl, ?_⟩
                                refine ⟨_, rfl, _, rfl, x, y, dx, dy, rfl, hx.more s2, hy.more s2, i1, i2, _, rfl, ite2 (fun t1 => ?_) (fun t1 => ?_)⟩
                                · exact qn (by rw [ed, t1]; rfl) _ s2
                                · refine ⟨_, rfl, _, rfl, vc, ve, c, e4, rfl, hc, he, ic, ie, _, rfl, ite2 (fun t2 => ?_) (fun t2 => ?_)⟩
                                  · exact qn (by rw [ed, t2, Bool.or_true]; rfl) _ s2
                                  · exact ⟨_, rfl, qv (by rw [ed, (Bool.not_eq_true _).mp t1, (Bool.not_eq_true _).mp t2]; rfl) _ s2⟩
                              · refine ⟨_, rfl, br, _, rfl, sqt hbr, rfl, _, _, rfl, _, _, rfl, rfl, ?_⟩
                                refine ⟨_, rfl, _, rfl, x, y, dx, dy, rfl, hx.more s2, hy.more s2, i1, i2, _, rfl, ite2 (fun t1 => ?_) (fun t1 => ?_)⟩
                                · exact qn (by rw [ed, t1]; rfl) _ s2
                                · refine ⟨_, rfl, _, rfl, vc, ve, c, e4, rfl, hc, he, ic, ie, _, rfl, ite2 (fun t2 => ?_) (fun t2 => ?_)⟩
                                  · exact qn (by rw [ed, t2, Bool.or_true]; rfl) _ s2
                                  · exact ⟨_, rfl, qv (by rw [ed, (Bool.not_eq_true _).mp t1, (Bool.not_eq_true _).mp t2]; rfl) _ s2⟩
                              · have c1 : ¬ numOf dx < 2 := fun z => c1 (decide_eq_true z)
                                have c2 : ¬ numOf dy < 2 := fun z => c2 (decide_eq_true z)
                                exact ⟨_, rfl, qv (by rw [ed, num_big i1 (by omega), num_big i2 (by omega), num_big ic (by omega), num_big ie (by omega)]; rfl) _ s2⟩
                            · exact qn (edge_no i1 i2 (fun z => w1 (decide_eq_true z.2)) fun z => w2 (decide_eq_true z.2)) _ s2
                          · exact qn (edge_no i1 i2 (fun z => w1 (decide_eq_true z.2)) fun z => q2 z.1) _ s2
                      · refine ⟨_, rfl, _, rfl, _, _, nX, rfl, _, rfl, (by show 2 ≤ sizeLine; decide), fun p2 hp2 => ?_⟩
                        have s2 : Same H (upd (upd H p1 (.tup [x, .int (numOf dy + 1)])) p2 (.tup [.int (numOf dx + 1), y])) := fun b o e => stay (s1 b o e) hp2
                        refine ⟨r, .tuple [.int (numOf dx + 1), dy], dv_dp (hvr.more s2) fr, .tup (sqt upd_same) (.cons (.int _) (.cons (dv_dp (hy.more s2) (ish_flat i2)) .nil)), sr, shaped_nn rfl i2, _, rfl, ite2 (fun q2 => ?_) (fun q2 => ?_)⟩
                        · refine ⟨_, rfl, _, _, nX, rfl, _, rfl, ite2 (fun w2 => ?_) (fun w2 => ?_)⟩
                          · have w2 : numOf dx < 30 := of_decide_eq_true w2
                            refine ⟨_, rfl, _, _, rfl, nX, (by decide), _, rfl, _, _, rfl, nY, _, _, rfl, rfl, .inl (by decide), _, _, rfl, rfl, ?_⟩
                            obtain ⟨c, e4, rfl, ic, ie, nc, ne⟩ := eqv_two (show intish (.int _) = true from rfl) i2 q2
                            have nc : numOf c = numOf dx + 1 := nc
                            have ne : numOf e4 = numOf dy := ne
                            have ed := edge_is (a := dx) (b := dy) (c := c) (e := e4) i1 i2 ic ie (by omega) (by omega) (by omega) (by omega) (by omega)
                            have hn : numE (.tuple [.tuple [dx, dy], .tuple [c, e4]]) = 2 * (31 * numOf dx + numOf dy) + 1 := by
                              show 2 * (31 * numOf dx + numOf dy) + (if numOf c = numOf dx + 1 then 1 else 0) = _
                              rw [if_pos (by omega)]
                            have qv : edgeB (.tuple [.tuple [dx, dy], .tuple [c, e4]]) = true → ∀ H', Same H H' → Q (.int (2 * (31 * numOf dx + numOf dy) + 1)) H' := fun h H' s => by have := qi h H' s; rwa [hn] at this
                            obtain ⟨br, vc, ve, er, hbr, hc, he⟩ := dv_pair (hvr.more s2)
                            subst er
                            refine ⟨_, rfl, _, _, nX, rfl, _, rfl, ite2 (fun c1 => ?_) (fun c1 => ⟨_, rfl, _, _, nY, rfl, _, rfl, ite2 (fun c2 => ?_) (fun c2 => ?_)⟩)⟩
                            · refine ⟨_, rfl, br, _, rfl, sqt hbr, rfl, _, _, rfl, _, _, rfl, rfl, ?_⟩
                              refine ⟨_, rfl, _, rfl, x, y, dx, dy, rfl, hx.more s2, hy.more s2, i1, i2, _, rfl, ite2 (fun t1 => ?_) (fun t1 => ?_)⟩
                              · exact qn (by rw [ed, t1]; rfl) _ s2
                              · refine ⟨_, rfl, _, rfl, vc, ve, c, e4, rfl, hc, he, ic, ie, _, rfl, ite2 (fun t2 => ?_) (fun t2 => ?_)⟩
                                · exact qn (by rw [ed, t2, Bool.or_true]; rfl) _ s2
                                · exact ⟨_, rfl, qv (by rw [ed, (Bool.not_eq_true _).mp t1, (Bool.not_eq_true _).mp t2]; rfl) _ s2⟩
                            · refine ⟨_, rfl, br, _, rfl, sqt hbr, rfl, _, _, rfl, _, _, rfl, rfl, ?_⟩
                              refine ⟨_, rfl, _, rfl, x, y, dx, dy, rfl, hx.more s2, hy.more s2, i1, i2, _, rfl, ite2 (fun t1 => ?_) (fun t1 => ?_)⟩
                              · exact qn (by rw [ed, t1]; rfl) _ s2
                              · refine ⟨_, rfl, _, rfl, vc, ve, c, e4, rfl, hc, he, ic, ie, _, rfl, ite2 (fun t2 => ?_) (fun t2 => ?_)⟩
                                · exact qn (by rw [ed, t2, Bool.or_true]; rfl) _ s2
                                · exact ⟨_, rfl, qv (by rw [ed, (Bool.not_eq_true _).mp t1, (Bool.not_eq_true _).mp t2]; rfl) _ s2⟩
                            · have c1 : ¬ numOf dx < 2 := fun z => c1 (decide_eq_true z)
                              have c2 : ¬ numOf dy < 2 := fun z => c2 (decide_eq_true z)
                              exact ⟨_, rfl, qv (by rw [ed, num_big i1 (by omega), num_big i2 (by omega), num_big ic (by omega), num_big ie (by omega)]; rfl) _ s2⟩
                          · exact qn (edge_no i1 i2 (fun z => q1 z.1) fun z => w2 (decide_eq_true z.2)) _ s2
                        · exact qn (edge_no i1 i2 (fun z => q1 z.1) fun z => q2 z.1) _ s2
                  · exact ⟨_, rfl, qn (edge_nopt (pt_no2 (coo_num fun z => y0 (decide_eq_true z.1)))) H (same0 H)⟩
              · exact ⟨_, rfl, qn (edge_nopt (pt_no1 (coo_num fun z => x0 (decide_eq_true z.1)))) H (same0 H)⟩
end
end V1
set_option Elab.async false
set_option linter.all false
set_option maxRecDepth 100000
set_option maxHeartbeats 4000000
/-! sorted(d) of a dict of any size whose keys are ints; tuple(d.values()); a loop over a list or a tuple. -/
namespace Nv
open PySem PySem.Spec PyProof.Rows L2

theorem pi_or {X : Cx} {tg e : Expr} {t1 t2 : TI} (h1 : PI X tg e t1) (h2 : PI X tg e t2) : PI X tg e (fun σ H R => t1 σ H R ∨ t2 σ H R) :=
  ⟨fun pins s σ H R I h => h.elim (h1.run pins s σ H R I) (h2.run pins s σ H R I)⟩

/-- what was gathered of the keys: ints -/
theorem ints_keys {vs : List (Key × Value)} {ks : List Int} {acc : Array Value} (e : vs.map (·.1) = ks.map Sum.inl) (g : ItemsOf (fun i v => ∃ k x, vs[i]? = some (k, x) ∧ keyIs k v = true) acc vs.length) : IntsAre acc.toList ks := by
  have ln : vs.length = ks.length := by simpa using congrArg List.length e
  refine ints_each (by rw [Array.length_toList, g.1, ln]) fun j v ev => ?_
  obtain ⟨k, x, h1, h2⟩ := g.2 j v (by simpa using ev)
  have hk : (ks.map (Sum.inl : Int → Key))[j]? = some k := by rw [← e, List.getElem?_map, h1]; rfl
  rw [List.getElem?_map, Option.map_eq_some_iff] at hk
  obtain ⟨y, hy, rfl⟩ := hk
  obtain ⟨t, rfl⟩ := Value.isInt_shape (show Value.isInt y v = true from h2)
  exact ⟨y, t, hy, rfl⟩
section
variable {X : Cx}
/-- sorted(d) of a dict whose keys are ints, any number of them -/
def rSortDw : List V → Hp → VK → Prop := fun xs H Q => ∃ (a : Addr) (kvs : List (Key × V)) (ks : List Int), xs = [.ref a] ∧ Rd H a (.dK kvs) ∧ kvs.map (·.1) = ks.map Sum.inl ∧
  ∀ (ys : List Int) (p : Addr), ys.Perm ks → ys.Pairwise (· ≤ ·) → H p = none → Q (.ref p) (upd H p (.lst (ys.map V.int)))
theorem call_sortedDw (calm : X.calm = true) : CallR X (.builtin "sorted") rSortDw := by
  rintro pins s σ H _ us Q I r ⟨a, kvs, ks, rfl, rd, hks, q⟩
  obtain ⟨_, rfl, rfl⟩ : ∃ u, us = [u] ∧ u = Value.ref a := by
    obtain ⟨u, e, rx⟩ := vals1 r
    exact ⟨u, e, rx⟩
  obtain ⟨big, lo, vs, kv, dof⟩ := dk_rd I.hok rd
  obtain ⟨ep, dat⟩ := dof.dictAt
  have same : vs.map (·.1) = ks.map Sum.inl := by rw [← kv.keys]; exact hks
  have nvs : vs.length ≤ sizeLine := by rw [← Paired.length kv]; exact big
  have nks : ks.length ≤ sizeLine := by
    have := congrArg List.length same
    simp only [List.length_map] at this
    omega
  refine Calls.call_function_entry PyProof.Rows.kind_sorted PyProof.Rows.plain_sorted PyProof.Rows.entry_sorted (PyProof.Rows.args_sorted1 _) ?_
  unfold Builtin.«sorted»
  refine wpAny_bind (m := checkCount "sorted" 1 1 _) (wpAny_pure (wpAny_bind (PySem.W.kdu_collect (A := X.A.in1) (PySem.W.kdl_dict (knd := mixKind X.prog X.w) (kvs := vs) (ep := ep) lo) (I.ok.hd calm) dat nvs fun G tk acc kept got => ?_)))
  have ai := ints_keys same got
  have al : acc.toList.length ≤ sizeLine := by rw [ai.length]; exact nks
  have J : Inv X pins σ H { s with heap := G, toks := tk } := I.kept kept
  have at_ : (G.push (seqObj "list" acc.toList.toArray 0)).get? G.objs.size = some (seqObj "list" acc.toList.toArray 0) := Heap.get?_push_size _ rfl
  refine wpAny_bind (wpAny_newList ?_ al)
  refine wpAny_bind (wpAny_holding (wpAny_call_entry PyProof.Rows.slot_list_sort ⟨_, at_, rfl⟩ PyProof.Rows.entry_list_sort ?_ (PyProof.Rows.args_list_sort _)))
  refine SrtO.list_sort_ord (s := { s with heap := G.push (seqObj "list" acc.toList.toArray 0), toks := tk }) SrtO.swo_int at_ al (fun two => SrtO.ints_sortable ai two) fun out o1 o2 => ⟨_, rfl, ?_⟩
  obtain ⟨w1, w2, w3⟩ := SrtO.ints_out ai o1 o2
  obtain ⟨n, put⟩ := PyProof.Rows.sortedHeap_at (vs := acc.toList) (out := out.toArray) at_
  refine wpAny_pure ⟨_, rfl, .ref G.objs.size, _, J.laid (t' := tk) (o := .lst ((out.map SrtO.iv).map V.int)) (fun b u e => ?_) (Nat.le_refl _) ⟨?_, out, n, vals_of_ints w1, put⟩, rfl, q _ _ w2 w3 (J.hok.fresh (Nat.le_refl _))⟩
  · have lt := Heap.lt_size e
    rw [PyProof.Rows.sortedHeap_old (Nat.ne_of_lt lt) (by rw [size_push']; exact Nat.lt_succ_of_lt lt)]
    exact Heap.get?_push_of_some _ e
  · rw [List.length_map, w2.length_eq]
    exact nks
end

theorem vals_each : ∀ {xs : List V} {us : List Value}, xs.length = us.length → (∀ (j : Nat) (v : Value), us[j]? = some v → ∃ x, xs[j]? = some x ∧ RelV x v) → Vals xs us
  | [], [], _, _ => .nil
  | [], _ :: _, e, _ => by simp at e
  | _ :: _, [], e, _ => by simp at e
  | x :: xs, u :: us, e, h => by
    obtain ⟨y, e1, r⟩ := h 0 u rfl
    have e2 : x = y := Option.some.inj (show some x = some y from e1)
    subst e2
    exact .cons r (vals_each (by simpa using e) fun j v q => h (j + 1) v (by simpa using q))
section
variable {prog : Program} {w : World} {A : Around} {E : Value → Shared → Prop} {s : Shared} {v d : Addr} {n : Nat} {Is : Nat → Value → Prop} {Ok : Heap → Prop}
/-- what tuple(view) leaves -/
def Tupled (Is : Nat → Value → Prop) (n : Nat) (s : Shared) (Q : Value → Shared → Prop) : Prop := ∀ (G : Heap) (tk : Nat) (its : Array Value), (∀ b o, s.heap.get? b = some o → G.get? b = some o) → ItemsOf Is its n →
  Q (.ref G.objs.size) { s with heap := G.push { cls := .type "tuple", data := .seq its }, toks := tk }
theorem new_of_view {R : Value → Shared → Prop} (src : PySem.W.KdlSrc prog w "dict_values" v d n Is Ok) (calm : A.handled = none) (ok : Ok s.heap) (few : n ≤ sizeLine) (h : Tupled Is n s R) :
    codeAny (model prog w) A (.call (.builtin "tuple.__new__") ⟨[.type "tuple", .ref v], []⟩) (wants R E) s := by
  have tv : s.TypeIs (.ref v) "dict_values" := src.type s ok
  have calm1 : A.in1.handled = none := calm
  have f1 := sub_tuple_self
  have f2 := init_tuple_lookup
  have f3 := madeHere_tuple
  apply codeAny_of_tree
  show wpAny _ A.in1 (checkBuiltinCall "tuple.__new__" ⟨[.type "tuple", .ref v], []⟩ >>= fun _ => again (.builtin "tuple.__new__" ⟨[.type "tuple", .ref v], []⟩)) _ _ s
  apply wpAny_bind
  refine wpAny_of_eq (F.newCall_tuple_1 _) (wpAny_pure ⟨plainId_quiet F.plain_tuple_new _, codeAny_builtin F.entry_tuple_new ?_⟩)
  rw [Around.under_plainId F.plain_tuple_new _]
  wp_walk using wpAny_typeOf tv, PySem.W.kdu_collect (A := A.in1) src calm1 ok few
  intro G tk its kept got
  have back : its.toList.toArray = its := by simp
  show wpAny _ _ (Builtin.Tuple.tupleExact its.toList.toArray >>= fun u => ret u) _ _ _
  rw [back]
  unfold Builtin.Tuple.tupleExact
  exact wpAny_bind (wpAny_newObj_type (wpAny_pure (h G tk its kept got)) (by show its.size ≤ sizeLine; rw [got.1]; exact few))
theorem tuple_of_view {Q : Value → Shared → Prop} (src : PySem.W.KdlSrc prog w "dict_values" v d n Is Ok) (calm : A.handled = none) (ok : Ok s.heap) (few : n ≤ sizeLine) (h : Tupled Is n s Q) :
    wpAny (model prog w) A (call (.type "tuple") [.ref v]) Q E s :=
  callType_codes (Q₁ := fun u s1 => s1.TypeIs u "tuple" ∧ Q u s1) F.called_tuple (F.typeCall_tuple_1 _) F.entry_object_init
    (new_of_view (A := A.in1) src calm ok few fun G tk its kept got => ⟨⟨_, Heap.get?_push_size _ rfl, rfl⟩, h G tk its kept got⟩)
    fun u s1 z => ⟨z.1, F.args_object_init_2 u _, object_init_meets F.called_tuple.init.lookup F.called_tuple.made (by decide) prog w A.in1 _ s1 ⟨z.1, rfl, z.2⟩⟩
end

section
variable {X : Cx} {o : Expr} {p pos apos mpos : Pos} {td : TE}
/-- tuple(o.values()) -/
theorem pe_tupVals (hc : X.calm = true) (hg : Gl X "tuple") (hm : X.mg "tuple" = none) (hd : PE X o td) (hbase : attributeBase o "values" X.env (eval o X.env) = eval o X.env := by rfl) (hline : (apos.endLine == mpos.line) = true := by rfl)
    (hse : starEach [Expr.Call (.Attribute o "values" apos) [] [] mpos] X.env = (false, eval (Expr.Call (.Attribute o "values" apos) [] [] mpos) X.env) :: starEach [] X.env := by rfl) :
    PE X (.Call (.Name "tuple" p) [.Call (.Attribute o "values" apos) [] [] mpos] [] pos) (fun σ H Q => td σ H fun x H1 => ∃ a kvs, x = V.ref a ∧ H1 a = some (.dK kvs) ∧ ∀ q, H1 q = none → Q (.ref q) (upd H1 q (.tup (kvs.map (·.2))))) := by
  constructor
  intro pins s σ H Q I h
  refine Call_ (ld_blt I hg hm boot_tuple (PyProof.Rows.callWith_type1 (args_cons (wpAny_Call_method0_late hbase hline (thn (hd.run pins s σ H _ I h) ?_)) hse) hse))
  rintro u s1 ⟨x, H1, I1, rx, a, kvs, rfl, ha, q⟩
  cases (show u = Value.ref a from rx)
  obtain ⟨big, lo, vs, kv, dof⟩ := dk_of I1.hok ha
  obtain ⟨ep, dat⟩ := dof.dictAt
  obtain ⟨ob, es, ho, ex, _⟩ := id dat
  refine ⟨"dict", "dict.values", F.plainAttrs_dict, F.slot_dict_values, F.type_dict_values, ⟨ob, ho, ex.1⟩, fun b e => by cases e; exact ⟨ob, ho, ex.2.1⟩, Calls.callWith_builtin rfl (PySem.evalArgs_none ?_)⟩
  refine call_meetsIn F.slot_dict_values ⟨ob, ho, ex.1⟩ F.entry_dict_values (F.args_dict_values_1 _) (meets_dict_values (mixKind X.prog X.w) a lo) ⟨⟨vs, dof⟩, args_nil ?_⟩
  have old : ∀ b u, s1.heap.get? b = some u → (s1.heap.push { cls := .type "dict_values", data := .fields #[.ref a] }).get? b = some u := fun b u e => Heap.get?_push_of_some _ e
  have ln : vs.length = kvs.length := (KV.length kv).symm
  refine tuple_of_view (PySem.W.kdl_values (knd := mixKind X.prog X.w) (kvs := vs) (ep := ep)) (I1.ok.hd hc) ⟨⟨_, Heap.get?_push_size _ rfl, rfl, rfl⟩, dat.keep old⟩ (by omega) fun G tk its kept got => ?_
  have J : Inv X pins σ H1 { s1 with heap := G, toks := tk } := I1.kept fun b u e => kept b u (old b u e)
  have rel : Vals (kvs.map (·.2)) its.toList := by
    refine vals_each (xs := kvs.map (·.2)) (us := its.toList) (by rw [List.length_map, ← ln, ← got.1]; exact (Array.length_toList).symm) fun j w e => ?_
    obtain ⟨k, e1⟩ := got.2 j w (by simpa using e)
    obtain ⟨y, e2, e3⟩ := KV.at' kv e1
    exact ⟨y, by rw [List.getElem?_map, e2]; rfl, e3⟩
  exact ⟨.ref G.objs.size, _, J.laid (t' := tk) (o := .tup (kvs.map (·.2))) (fun c o e => Heap.get?_push_of_some _ e) (Nat.le_refl _) ⟨by rw [List.length_map]; exact big, its.toList, rel, by rw [Array.toArray_toList]; exact IsTup.new _ _⟩, rfl, q _ (J.hok.fresh (Nat.le_refl _))⟩
end
end Nv
set_option Elab.async false
set_option linter.all false
set_option maxRecDepth 100000
set_option maxHeartbeats 16000000
/-! _ascending: a dict of numbers, its keys ascending. -/
namespace V1
open PySem PySem.Spec PyProof.Rows L2 Nv

/-- the keys are ints, and ascend -/
def Srt (kvs : List (Key × V)) : Prop := ∃ ks : List Int, kvs.map (·.1) = ks.map Sum.inl ∧ ks.Pairwise (· < ·)
def valN (kvs : List (Key × V)) (k : Int) : V := (valV kvs (Sum.inl k)).getD .non
theorem kvs_eq : ∀ (kvs : List (Key × V)) (ks : List Int), kvs.map (·.1) = ks.map Sum.inl → ks.Nodup → kvs = ks.map fun k => ((Sum.inl k : Key), valN kvs k)
  | [], [], _, _ => rfl
  | [], _ :: _, e, _ => by simp at e
  | _ :: _, [], e, _ => by simp at e
  | p :: r, k :: ks, e, nd => by
    rw [List.map_cons, List.map_cons, List.cons.injEq] at e
    obtain ⟨e1, e2⟩ := e
    have nd1 := List.nodup_cons.mp nd
    have ih := kvs_eq r ks e2 nd1.2
    rw [List.map_cons]
    refine congr (congrArg _ ?_) ?_
    · unfold valN
      rw [valV_pos e1, ← e1]
      rfl
    · refine ih.trans (List.map_congr_left fun j hj => ?_)
      have ne : ¬ p.1 = Sum.inl j := fun z => by
        rw [e1] at z
        exact nd1.1 (by rw [Sum.inl.inj z]; exact hj)
      unfold valN
      rw [valV_neg ne]
theorem valV_keys {kvs : List (Key × V)} {ks : List Int} (e : kvs.map (·.1) = ks.map Sum.inl) {k : Int} (hk : k ∈ ks) : valV kvs (Sum.inl k) = some (valN kvs k) := by
  have : (valV kvs (Sum.inl k : Key)).isSome = true := by
    rw [← valV_any, List.any_eq_true]
    have : (Sum.inl k : Key) ∈ kvs.map (·.1) := by rw [e]; exact List.mem_map_of_mem hk
    obtain ⟨p, hp, e1⟩ := List.mem_map.mp this
    exact ⟨p, hp, decide_eq_true e1⟩
  obtain ⟨v, hv⟩ := Option.isSome_iff_exists.mp this
  unfold valN
  rw [hv]
  rfl
theorem strict_of {ys ks : List Int} (p : ys.Perm ks) (nd : ks.Nodup) (h : ys.Pairwise (· ≤ ·)) : ys.Pairwise (· < ·) := by
  have n : ys.Pairwise (· ≠ ·) := p.nodup_iff.mpr nd
  exact (h.and n).imp fun ⟨a, b⟩ => by omega
theorem dp_ints {K : PySem.W.Frag} {H : Hp} : ∀ ns : List Int, DpAll K H (ns.map V.int) (ns.map PyData.int)
  | [] => .nil
  | b :: r => .cons (.int b) (dp_ints r)
theorem lay_ints : ∀ ns : List Int, PyData.canLayAll0 (ns.map PyData.int) = true
  | [] => by simp [PyData.canLayAll0]
  | z :: zs => by simp [PyData.canLayAll0, PyData.canLay0, lay_ints zs]
theorem depth_ints : ∀ ns : List Int, PyData.depthAll (ns.map PyData.int) = 0
  | [] => by simp [PyData.depthAll]
  | z :: zs => by simp [PyData.depthAll, PyData.depth, depth_ints zs]
theorem shaped_ints (ns : List Int) : SeqAt.shaped (.list (ns.map PyData.int)) = true := by
  show (PyData.canLay0 (.list (ns.map PyData.int)) && decide (PyData.depth (.list (ns.map PyData.int)) ≤ 64)) = true
  rw [Bool.and_eq_true]
  exact ⟨by simp only [PyData.canLay0]; exact lay_ints ns, decide_eq_true (by simp [PyData.depth, depth_ints])⟩
theorem eqvs_ints : ∀ ns ms : List Int, PyData.eqvAll (ns.map PyData.int) (ms.map PyData.int) = decide (ns = ms)
  | [], [] => by simp [PyData.eqvAll]
  | [], _ :: _ => by simp [PyData.eqvAll]
  | _ :: _, [] => by simp [PyData.eqvAll]
  | n :: ns, m :: ms => by
    simp only [List.map_cons, PyData.eqvAll, PyData.eqv, eqvs_ints ns ms]
    by_cases h : n = m <;> simp [h]
theorem eqv_ints (ns ms : List Int) : PyData.eqv (.list (ns.map PyData.int)) (.list (ms.map PyData.int)) = decide (ns = ms) := by
  simp only [PyData.eqv]
  exact eqvs_ints ns ms
structure Tas (mg : Str → Option Value) : Prop where
  srt : mg "sorted" = none
  lst : mg "list" = none
def spAsc : Sp := fun vs H Q _ => ∃ (h : Addr) (kvs : List (Key × V)) (ks : List Int), vs = [.ref h] ∧ H h = some (.dK kvs) ∧ kvs.map (·.1) = ks.map Sum.inl ∧ ks.Nodup ∧ kvs.length ≤ 1000 ∧ (∀ h' kvs' H', Same H H' → H' h' = some (.dK kvs') → kvs'.Perm kvs → Srt kvs' → Q (.ref h') H')
section
variable {P : Program} {w : World} {K : PySem.W.Frag} {mg : Str → Option Value} {base : Heap}
theorem scAs : FnScope ["held", "numbers", "number"] ["held"] (defScope (top 16)) := ⟨rfl, rfl, rfl, by decide +kernel, rfl, by decide +kernel, by decide +kernel⟩
theorem ok_asc {f : Addr} {fd : FuncData} (F : Fun K "_ascending" "_ascending" (top 16) f fd) (T : Tas mg) : FnOk P w K mg base CX0 1 f fd ["held"] spAsc := by
  refine F.ok scAs (fun vs H Q E h => by obtain ⟨h, kvs, ks, rfl, _⟩ := h; rfl) (fun cdv A outer s H vs Q E hr h => ?_)
  obtain ⟨h, kvs, ks, rfl, hh, hks, nd, l1, q⟩ := h
  have hu : (A.deeper (envOfC "_ascending" (defScope (top 16)) s.heap.objs.size f cdv)).units + 64 < cLine := by
    have := hr.un
    omega
  refine ⟨_, (pss_cons (ps_set (i := 1) scAs.nd rfl (Or.inl rfl) (pe_callB (call_sortedDw rfl) (by rfl) T.srt (by decide +kernel) (pa_cons (pv 0) pa_nil)))
    (pss_one (ps_ret (pe_ifExp (pt_cmpR (op_eqD hu) (pv 1) (pe_callTy (call_listD rfl) (by rfl) T.lst (by decide +kernel) (pa_cons (pv 0) pa_nil)) (by rfl)) (pv 0)
      (pe_dc (own := [("number", 2)]) (g := gName 2) (tt := tYes) rfl scAs.nd (pi_list (pv 1)) (blkOk_by (N := ["held", "numbers", "number"]) (sc := defScope (top 16)) (by decide +kernel)) (fun _ _ _ _ _ => pg_name (i := 2) scAs.nd rfl (Or.inl rfl)) (fun _ _ _ _ _ => pts_nil) (fun _ _ _ _ _ => pv 2)
        (fun _ _ _ _ _ => pe_dget (Nat.lt_of_le_of_lt (Nat.add_le_add_left (Nat.le_of_ble_eq_true (show Nat.ble 1 64 = true from rfl)) _) hu) (pv 0) (pv 2) (by intro _ _; rfl))))))), ?_⟩
  refine ⟨_, rfl, h, kvs, ks, rfl, .inl hh, hks, fun ys p pm le np => ?_⟩
  have s1 : Same H (upd H p (.lst (ys.map V.int))) := fun b o e => stay e np
  have hp1 : upd H p (.lst (ys.map V.int)) p = some (.lst (ys.map V.int)) := upd_same
  have h1 := s1 _ _ hh
  generalize upd H p (.lst (ys.map V.int)) = H1 at s1 hp1 h1
  have st := strict_of pm nd le
  refine ⟨_, rfl, _, rfl, h, kvs, rfl, .inl h1, fun l nl => ?_⟩
  have s2 : Same H1 (upd H1 l (.lst (kvs.map fun kv => kV kv.1))) := fun b o e => stay e nl
  have hl2 : upd H1 l (.lst (kvs.map fun kv => kV kv.1)) l = some (.lst (ks.map V.int)) := by
    rw [upd_same]
    have : kvs.map (fun kv => kV kv.1) = (kvs.map (·.1)).map kV := by rw [List.map_map]; rfl
    rw [this, hks, List.map_map]
    rfl
  have hp2 := s2 _ _ hp1
  have h2 := s2 _ _ h1
  generalize upd H1 l (.lst (kvs.map fun kv => kV kv.1)) = H2 at s2 hl2 hp2 h2
  refine ⟨_, _, .lst (SqL.of hp2) (dp_ints ys), .lst (SqL.of hl2) (dp_ints ks), shaped_ints ys, shaped_ints ks, _, rfl, ?_⟩
  rw [eqv_ints]
  have s02 : Same H H2 := fun b o e => s2 b o (s1 b o e)
  cases e : decide (ys = ks) with
  | true =>
    have e := of_decide_eq_true e
    subst e
    exact ⟨_, rfl, q h kvs H2 s02 h2 (List.Perm.refl _) ⟨ys, hks, st⟩⟩
  | false =>
    refine ⟨_, rfl, p, rfl, ⟨_, SqL.of hp2⟩, fun D nD => ?_⟩
    have nDh : D ≠ h := fun e => by rw [e, h2] at nD; cases nD
    have nDp : D ≠ p := fun e => by rw [e, hp2] at nD; cases nD
    let I : Nat → Hp → Prop := fun i H' => (∀ b o, H2 b = some o → H' b = some o) ∧ H' D = some (.dK ((ys.take i).map fun k => ((Sum.inl k : Key), valN kvs k)))
    have ykeys : ∀ k ∈ ys, k ∈ ks := fun k hk => pm.mem_iff.mp hk
    refine ⟨fun i m H' => m = ys.length - i ∧ i ≤ ys.length ∧ I i H', ⟨_, rfl, Nat.zero_le _, fun b o e => stay e nD, upd_same⟩, ?_⟩
    rintro i m H' ⟨rfl, hi, sk, hD⟩
    have hp' := sk _ _ hp2
    by_cases hlt : i < ys.length
    · have hx : ys[i]? = some ys[i] := List.getElem?_eq_getElem hlt
      refine .inr ⟨⟨ys.map V.int, .int ys[i], SqL.of hp', by rw [List.getElem?_map, hx]; rfl⟩, fun H'' => I (i + 1) H'', fun H'' z => ⟨_, by omega, rfl, hlt, z⟩, fun x H'' y => ?_⟩
      obtain ⟨rfl, y⟩ := y
      have ex := y _ (SqL.of hp')
      rw [List.getElem?_map, hx] at ex
      cases (Option.some.inj ex)
      refine ⟨rfl, _, rfl, _, rfl, _, rfl, h, valN kvs ys[i], rfl, ?_, ?_⟩
      · have := DGet.k (k := Sum.inl ys[i]) (sk _ _ h2)
        rw [valV_keys hks (ykeys _ (List.getElem_mem hlt))] at this
        exact this
      · have tl : (ys.take i).length ≤ ys.length := by rw [List.length_take]; omega
        have hyl : ys.length = kvs.length := by
          rw [pm.length_eq]
          have e := congrArg List.length hks
          rw [List.length_map, List.length_map] at e
          exact e.symm
        refine ⟨_, Sum.inl ys[i], rfl, hD, ?_, fun b o e => ?_, ?_⟩
        · rw [List.length_map]
          exact Nat.lt_of_le_of_lt (show (ys.take i).length ≤ 1001 by omega) (by decide)
        · have nb : b ≠ D := fun z => by rw [z, nD] at e; cases e
          rw [upd_ne nb]
          exact sk b o e
        · rw [upd_same]
          have nodup : ys.Nodup := pm.nodup_iff.mpr nd
          rw [putK_new, List.take_succ_eq_append_getElem hlt, List.map_append]
          · rfl
          · cases ev : valV ((ys.take i).map fun k => ((Sum.inl k : Key), valN kvs k)) (Sum.inl ys[i]) with
            | none => rfl
            | some v =>
              have mm := valV_in ev
              rw [List.map_map] at mm
              obtain ⟨k, hk, ek⟩ := List.mem_map.mp mm
              have ek : k = ys[i] := Sum.inl.inj ek
              obtain ⟨j, hj, ej⟩ := List.mem_iff_getElem.mp hk
              rw [List.getElem_take] at ej
              have hj2 : j < i := by
                rw [List.length_take] at hj
                omega
              have := List.pairwise_iff_getElem.mp st j i (by omega) hlt hj2
              omega
    · have ei : i = ys.length := by omega
      subst ei
      refine .inl ⟨⟨_, SqL.of hp', by rw [List.length_map]; exact Nat.le_refl _⟩, q D _ H' (fun b o e => sk b o (s02 b o e)) hD ?_ ⟨ys, ?_, st⟩⟩
      · rw [List.take_length]
        refine (pm.map _).trans ?_
        rw [← kvs_eq kvs ks hks nd]
      · rw [List.take_length, List.map_map]
        rfl
end
end V1
set_option Elab.async false
set_option linter.all false
set_option maxRecDepth 100000
set_option maxHeartbeats 16000000
/-! _checked: a list or tuple of edges, its edges by number. -/
namespace V1
open PySem PySem.Spec PyProof.Rows L2 Nv

theorem ifT {b : Bool} {p q : Prop} (h : b = true) (x : p) : if b = true then p else q := by rw [if_pos h]; exact x
theorem ifF {b : Bool} {p q : Prop} (h : b = false) (x : q) : if b = true then p else q := by rw [if_neg (by rw [h]; exact Bool.false_ne_true)]; exact x
/-- a loop over what gives the items xs -/
theorem for_it {J : It} {xs : List V} {g : TG} {tb : TS} {D : Ends} {σ : L2.St} {H : Hp} (Pv : Nat → L2.St → Hp → Prop) (h0 : Pv 0 σ H)
    (hg : ∀ i σ H, i < xs.length → Pv i σ H → J.go i H ∧ ∀ x H', J.yld i H x H' → H' = H ∧ xs[i]? = some x) (hp : ∀ σ H, Pv xs.length σ H → J.stop xs.length H)
    (hs : ∀ i x σ H, xs[i]? = some x → Pv i σ H → g x σ H fun σ2 H2 => tb { D with nx := Pv (i + 1), ct := Pv (i + 1), bk := D.nx } σ2 H2) (hd : ∀ σ H, Pv xs.length σ H → D.nx σ H) :
    ∃ W : Nat → Nat → L2.St → Hp → Prop, (∃ m, W 0 m σ H) ∧ ∀ i m σ H, W i m σ H →
      (J.stop i H ∧ D.nx σ H) ∨ (J.go i H ∧ ∃ N : L2.St → Hp → Prop, (∀ σ' H', N σ' H' → ∃ m', m' < m ∧ W (i + 1) m' σ' H') ∧ ∀ x H', J.yld i H x H' → g x σ H' fun σ2 H2 => tb { D with nx := N, ct := N, bk := D.nx } σ2 H2) := by
  refine ⟨fun i m σ H => m = xs.length - i ∧ i ≤ xs.length ∧ Pv i σ H, ⟨xs.length, by simp, Nat.zero_le _, h0⟩, ?_⟩
  rintro i m σ H ⟨rfl, hi, p⟩
  by_cases hlt : i < xs.length
  · obtain ⟨h1, h2⟩ := hg i σ H hlt p
    refine .inr ⟨h1, Pv (i + 1), fun σ' H' p' => ⟨xs.length - (i + 1), by omega, rfl, hlt, p'⟩, fun x H' y => ?_⟩
    obtain ⟨rfl, hx⟩ := h2 x H' y
    exact hs i x σ _ hx p
  · have e : i = xs.length := by omega
    subst e
    exact .inl ⟨hp σ H p, hd σ H p⟩
/-- what is held, by number, in the order of the items -/
def heldL : List V → List PyData → List (Key × V)
  | xs, ds => (xs.zip ds).foldl (fun m p => putK m (Sum.inl (numE p.2)) p.1) []
def heldI (xs : List V) (ds : List PyData) (i : Nat) : List (Key × V) := heldL (xs.take i) (ds.take i)
theorem heldI_zero {xs : List V} {ds : List PyData} : heldI xs ds 0 = [] := rfl
theorem heldI_succ {xs : List V} {ds : List PyData} {i : Nat} {x : V} {d : PyData} (hx : xs[i]? = some x) (hd : ds[i]? = some d) : heldI xs ds (i + 1) = putK (heldI xs ds i) (Sum.inl (numE d)) x := by
  unfold heldI heldL
  rw [List.take_add_one, List.take_add_one, hx, hd]
  have hl : (xs.take i).length = (ds.take i).length := by
    have h1 := (List.getElem?_eq_some_iff.mp hx).1
    have h2 := (List.getElem?_eq_some_iff.mp hd).1
    rw [List.length_take, List.length_take]
    omega
  show (((xs.take i ++ [x]).zip (ds.take i ++ [d])).foldl _ []) = _
  rw [List.zip_append hl, List.foldl_append]
  rfl
theorem heldI_all {xs : List V} {ds : List PyData} (h : xs.length = ds.length) : heldI xs ds xs.length = heldL xs ds := by
  unfold heldI
  rw [List.take_length, h, List.take_length]
/-- the keys are unlike ints -/
def IntKeys (kvs : List (Key × V)) : Prop := ∃ ks : List Int, kvs.map (·.1) = ks.map Sum.inl ∧ ks.Nodup
theorem putK_keys {kvs : List (Key × V)} {k : Key} {v w : V} (h : valV kvs k = some w) : (putK kvs k v).map (·.1) = kvs.map (·.1) := by
  have e : (kvs.any fun kv => decide (kv.1 = k)) = true := by rw [valV_any, h]; rfl
  unfold putK
  rw [if_pos e, List.map_map]
  refine List.map_congr_left fun p _ => ?_
  show (if p.1 = k then (p.1, v) else p).1 = p.1
  by_cases z : p.1 = k
  · rw [if_pos z]
  · rw [if_neg z]
theorem putK_intKeys {kvs : List (Key × V)} {n : Int} {v : V} (h : IntKeys kvs) : IntKeys (putK kvs (Sum.inl n) v) := by
  obtain ⟨ks, e, nd⟩ := h
  cases hv : valV kvs (Sum.inl n) with
  | some w => exact ⟨ks, by rw [putK_keys hv]; exact e, nd⟩
  | none =>
    refine ⟨ks ++ [n], by rw [putK_new v hv, List.map_append, List.map_append, e]; rfl, ?_⟩
    rw [List.nodup_append]
    refine ⟨nd, by simp, ?_⟩
    rintro a ha b hb rfl
    have eb : a = n := by simpa using hb
    subst eb
    have := valV_not hv
    rw [e] at this
    exact this (List.mem_map_of_mem ha)
theorem heldI_keys {xs : List V} {ds : List PyData} (h : xs.length = ds.length) : ∀ i, i ≤ xs.length → IntKeys (heldI xs ds i)
  | 0, _ => ⟨[], rfl, List.nodup_nil⟩
  | i + 1, hi => by
    rw [heldI_succ (List.getElem?_eq_getElem (show i < xs.length by omega)) (List.getElem?_eq_getElem (show i < ds.length by omega))]
    exact putK_intKeys (heldI_keys h i (by omega))
theorem putK_le (kvs : List (Key × V)) (k : Key) (v : V) : (putK kvs k v).length ≤ kvs.length + 1 := by
  unfold putK
  by_cases h : (kvs.any fun kv => decide (kv.1 = k)) = true
  · rw [if_pos h, List.length_map]
    exact Nat.le_succ _
  · rw [if_neg h, List.length_append]
    exact Nat.le_refl _
theorem heldI_len {xs : List V} {ds : List PyData} (h : xs.length = ds.length) : ∀ i, i ≤ xs.length → (heldI xs ds i).length ≤ i
  | 0, _ => Nat.le_refl _
  | i + 1, hi => by
    rw [heldI_succ (List.getElem?_eq_getElem (show i < xs.length by omega)) (List.getElem?_eq_getElem (show i < ds.length by omega))]
    exact Nat.le_trans (putK_le _ _ _) (by have := heldI_len h i (by omega); omega)
/-- kvs is what _checked returns -/
def Good (xs : List V) (ds : List PyData) (kvs : List (Key × V)) : Prop := kvs.Perm (heldL xs ds) ∧ Srt kvs
/-- the class of InvalidEdges -/
structure Tie (K : PySem.W.Frag) (mg : Str → Option Value) (C fI : Addr) : Prop where
  xc : Xc K C fI
  gl : mg "InvalidEdges" = some (.ref C)
/-- a list or tuple of data -/
theorem TyX.more {K : PySem.W.Frag} {H H' : Hp} {v : V} {t : Value} (h : TyX K H v t) (k : Same H H') : TyX K H' v t := by
  cases h with
  | base b =>
    cases b with
    | non => exact .base .non
    | bl x => exact .base (.bl x)
    | int i => exact .base (.int i)
    | str x => exact .base (.str x)
    | flt x => exact .base (.flt x)
    | lst e => exact .base (.lst (k _ _ e))
    | frz e => exact .base (.frz (k _ _ e))
    | tup e => exact .base (.tup (k _ _ e))
    | dK e => exact .base (.dK (k _ _ e))
    | dT e => exact .base (.dT (k _ _ e))
    | ins e cl ha hn htk hm => exact .base (.ins (k _ _ e) cl ha hn htk hm)
  | byt b => exact .byt b
  | set e => exact .set (k _ _ e)
  | kList e c => exact .kList e c
  | kTuple e c => exact .kTuple e c
  | kDict e c => exact .kDict e c
  | fTuple e => exact .fTuple (k _ _ e)
  | fDict e => exact .fDict (k _ _ e)
structure SqD (H : Hp) (a : Addr) (xs : List V) (ds : List PyData) : Prop where
  at_ : H a = some (.lst xs) ∨ H a = some (.tup xs)
  dv : DVs H xs ds
  fl : ∀ d ∈ ds, flatP d
  len : ds.length ≤ 1000
def seqs : List Value := [.type "list", .type "tuple"]
def spChk (K : PySem.W.Frag) (C : Addr) : Sp := fun vs H Q E => ∃ v t b, vs = [v] ∧ TyX K H v t ∧ PySem.W.kitAny K t seqs = some b ∧
  (b = false → ∀ dx H', Same H H' → XD H' dx v → E (.ref C) (some dx) H') ∧
  (b = true → ∃ a xs ds, v = .ref a ∧ SqD H a xs ds ∧ ((∃ d ∈ ds, edgeB d = false) → ∀ dx H', Same H H' → XD H' dx v → E (.ref C) (some dx) H') ∧
    ((∀ d ∈ ds, edgeB d = true) → ∀ h kvs H', Same H H' → H' h = some (.dK kvs) → Good xs ds kvs → Q (.ref h) H'))
section
variable {P : Program} {w : World} {K : PySem.W.Frag} {mg : Str → Option Value} {base : Heap} {C fI : Addr} {fdI : FuncData}
theorem scCk : FnScope ["edges", "held", "edge", "number"] ["edges"] (defScope (top 15)) := ⟨rfl, rfl, rfl, by decide +kernel, rfl, by decide +kernel, by decide +kernel⟩
theorem okN {x qual : Str} {st : Stmt} {f : Addr} {fd : FuncData} {N ps : List Str} {k : Nat} {sp : Sp} (F : Fun K x qual st f fd) (S : FnScope N ps (defScope st)) (len : ∀ vs H Q E, sp vs H Q E → vs.length = ps.length)
    (hbody : ∀ (cdv : Value) (A : Around) (outer : List Env) (s : Shared) (H : Hp) (vs : List V) (Q : VK) (E : XK), Room k (A.deeper (envOfC qual (defScope st) s.heap.objs.size f cdv)) → sp vs H Q E →
      L2N.Takes (cxOf (L2N.CX P w) P w K mg base N qual (defScope st) f cdv A outer s H E) (fun cls d _ H => E cls d H) →
      ∃ t, PSs (cxOf (L2N.CX P w) P w K mg base N qual (defScope st) f cdv A outer s H E) (defBody st) t ∧ t { nx := fun _ H' => Q .non H', rt := Q } (start N vs) H) : FnOk P w K mg base (L2N.CX P w) (k + 1) f fd ps sp := by
  obtain ⟨oc, od, kV, doc, pm, an, cdv, ct, osl, rfl, lk, hcd⟩ := F.ex
  exact fn_of lk hcd S len fun A outer s H vs Q E hr hsp => hbody cdv A outer s H vs Q E hr hsp (L2N.takes_of rfl rfl rfl rfl)
theorem scIni : FnScope ["self", "value"] ["self", "value"] (defScope (inClass (top 2) 0)) := ⟨rfl, rfl, rfl, by decide +kernel, rfl, by decide +kernel, by decide +kernel⟩
theorem ok_ini {f : Addr} {fd : FuncData} (F : Fun K "__init__" "NevercrossedError.__init__" (inClass (top 2) 0) f fd) : FnOk P w K mg base CX0 1 f fd ["self", "value"] (spIni K) := by
  refine F.ok scIni (fun vs H Q E h => ?_) (fun cdv A outer s H vs Q E hr h => ?_)
  · obtain ⟨a, C, v, rfl, _⟩ := h
    rfl
  · obtain ⟨a, C, v, rfl, T, nv, nf, nc, ha, q⟩ := h
    refine ⟨_, pss_cons (ps_ost (pv 0) (pv 1)) (pss_one (ps_ost (pv 0) (pe_cname (pe_xcls (pv 0))))), _, rfl, _, rfl, a, C, rfl, T, nv, .inl ⟨ha, fun dx nd ne => ?_⟩⟩
    refine ⟨_, rfl, a, C, dx, _, rfl, nc, upd_same, (by rw [upd_ne ne]; exact upd_same), C, rfl, nc, fun n => ⟨_, rfl, a, C, rfl, T, nf, .inr ⟨dx, _, upd_same, (by rw [upd_ne ne]; exact upd_same), (by show 1 ≤ 900; decide), ?_⟩⟩⟩
    have z := q dx n nd ne
    rw [← ini_heap ne] at z
    exact z
theorem ok_chk {f fE fA : Addr} {fd fdE fdA : FuncData} (F : Fun K "_checked" "_checked" (top 15) f fd) (T : Ta mg) (TL : mg "list" = none) (X : Tie K mg C fI) (GI : FnOk P w K mg base CX0 1 fI fdI ["self", "value"] (spIni K)) (bI : Binds K fdI ["self", "value"] [])
    (GE : FnOk P w K mg base CX0 3 fE fdE ["value"] spNum) (AE : At K mg "edge_number" fE fdE ["value"]) (GA : FnOk P w K mg base CX0 1 fA fdA ["held"] spAsc) (AA : At K mg "_ascending" fA fdA ["held"]) :
    FnOk P w K mg base (L2N.CX P w) 4 f fd ["edges"] (spChk K C) := by
  refine okN F scCk (fun vs H Q E h => by obtain ⟨v, t, b, rfl, _⟩ := h; rfl) (fun cdv A outer s H vs Q E hr h tk => ?_)
  obtain ⟨v, t, b, rfl, ty, kt, qf, qt⟩ := h
  have hu1 : (A.deeper (envOfC "_checked" (defScope (top 15)) s.heap.objs.size f cdv)).units + 1 < cLine := by
    have := hr.un
    omega
  refine ⟨_, (pss_cons (ps_if (pt_not (pt_val (pe_callB call_isiT (by rfl) T.isi (by decide +kernel) (pa_cons (pv 0) (pa_cons (pe_tup (pa_cons (pe_bltn (v := .ty "list") (u := .type "list") (by rfl) TL (by decide +kernel) rfl) (pa_cons (pe_bltn (v := .ty "tuple") (u := .type "tuple") (by rfl) T.tup (by decide +kernel) rfl) pa_nil))) pa_nil))))) (pss_one (L2N.ps_raise rfl tk (pmk_mkx X.xc.mx GI (hr.mono (by decide)) bI rfl X.gl (pv 0)))) pss_nil)
    (pss_cons (ps_set (i := 1) scCk.nd rfl (Or.inl rfl) pe_dnewK)
    (pss_cons (ps_for (passes_of rfl) rfl (pi_or (pi_list (pv 0)) (pi_tup (pv 0))) (pg_name (i := 2) scCk.nd rfl (Or.inl rfl))
      (pss_cons (ps_set (i := 3) scCk.nd rfl (Or.inl rfl) (pe_call GE hr rfl AE.g AE.k AE.b .nil pass0 (pa_cons (pv 2) pa_nil)))
      (pss_cons (ps_if (pt_cmpR op_isN (pv 3) pe_non (nomark _)) (pss_one (L2N.ps_raise rfl tk (pmk_mkx X.xc.mx GI (hr.mono (by decide)) bI rfl X.gl (pv 0)))) pss_nil)
      (pss_one (ps_dput hu1 (pv 1) (pv 3) (pv 2) (by rfl))))))
    (pss_one (ps_ret (pe_call GA (hr.mono (by decide)) rfl AA.g AA.k AA.b .nil pass0 (pa_cons (pv 1) pa_nil))))))), ?_⟩
  have bad : ∀ {H1 : Hp}, Same H H1 → (∀ dx H', Same H H' → XD H' dx v → E (.ref C) (some dx) H') → ∀ dx n, H1 dx = none → E (.ref C) (some dx) (upd H1 dx (.xd (xf n v))) := fun s1 q dx n nd => q dx _ (fun b o e => stay (s1 b o e) nd) XD.of
  refine ⟨_, rfl, (by show 2 ≤ sizeLine; decide), fun tp ntp => ⟨v, tp, _, t, seqs, b, rfl, upd_same, .cons (.ty _) (.cons (.ty _) .nil), TyX.more ty fun b o e => stay e ntp, kt, _, rfl, ?_⟩⟩
  have s1 : Same H (upd H tp (.tup [.ty "list", .ty "tuple"])) := fun b o e => stay e ntp
  generalize upd H tp (.tup [.ty "list", .ty "tuple"]) = H1 at s1
  cases b with
  | false => exact ⟨_, rfl, bad s1 (qf rfl)⟩
  | true =>
    obtain ⟨a, xs, ds, rfl, sq, qb, qg⟩ := qt rfl
    have ln := sq.dv.length
    refine fun D nD => ?_
    have s2 : Same H (upd H1 D (.dK [])) := fun b o e => stay (s1 b o e) nD
    have nDH : H D = none := by
      cases e : H D with
      | none => rfl
      | some o =>
        rw [s1 _ _ e] at nD
        cases nD
    let Pv : Nat → L2.St → Hp → Prop := fun i σ H' => ∃ o2 o3 : Option V, σ = [some (.ref a), some (.ref D), o2, o3] ∧ Same H H' ∧ H' D = some (.dK (heldI xs ds i)) ∧ ∀ j d, j < i → ds[j]? = some d → edgeB d = true
    have p0 : Pv 0 [some (.ref a), some (.ref D), none, none] (upd H1 D (.dK [])) := ⟨none, none, rfl, s2, upd_same, fun j d hj => absurd hj (Nat.not_lt_zero _)⟩
    have fin : ∀ σ H', Pv xs.length σ H' → ∃ v, σ[1]? = some (some v) ∧ spAsc [v] H' Q E0 := by
      rintro σ H' ⟨o2, o3, rfl, s3, hD, ed⟩
      obtain ⟨ks, e1, nd⟩ := heldI_keys ln xs.length (Nat.le_refl _)
      refine ⟨_, rfl, D, _, ks, rfl, hD, e1, nd, Nat.le_trans (heldI_len ln _ (Nat.le_refl _)) (by rw [ln]; exact sq.len), fun h' kvs' H'' s4 hk pm st => ?_⟩
      rw [heldI_all ln] at pm
      refine qg (fun d hd => ?_) h' kvs' H'' (fun b o e => s4 b o (s3 b o e)) hk ⟨pm, st⟩
      obtain ⟨j, hj⟩ := List.getElem?_of_mem hd
      exact ed j d (by rw [ln]; exact (List.getElem?_eq_some_iff.mp hj).1) hj
    rcases sq.at_ with ha | ha
    · refine .inl ⟨_, rfl, a, rfl, ⟨_, SqL.of (s2 _ _ ha)⟩, for_it (xs := xs) Pv p0 ?_ ?_ ?_ ?_⟩
      · rintro i σ H' hi ⟨o2, o3, rfl, s3, hD, ed⟩
        refine ⟨⟨xs, xs[i], SqL.of (s3 _ _ ha), List.getElem?_eq_getElem hi⟩, fun x H'' y => ⟨y.1, y.2 _ (SqL.of (s3 _ _ ha))⟩⟩
      · rintro σ H' ⟨o2, o3, rfl, s3, hD, ed⟩
        exact ⟨xs, SqL.of (s3 _ _ ha), Nat.le_refl _⟩
      · rintro i x σ H' hx ⟨o2, o3, rfl, s3, hD, ed⟩
        obtain ⟨d, hd, dv⟩ := sq.dv.at i x hx
        refine ⟨_, rfl, x, d, rfl, dv.more s3, sq.fl d (List.mem_of_getElem? hd), fun hf H'' s4 => ?_, fun ht H'' s4 => ?_⟩
        · refine ⟨_, rfl, rfl, _, rfl, ifT (decide_eq_true rfl) ?_⟩
          exact ⟨_, rfl, bad (fun b o e => s4 b o (s3 b o e)) (qb ⟨d, List.mem_of_getElem? hd, hf⟩)⟩
        · refine ⟨_, rfl, rfl, _, rfl, ifF (decide_eq_false fun e => nomatch e) ?_⟩
          have li := heldI_len ln i (Nat.le_of_lt (List.getElem?_eq_some_iff.mp hx).1)
          have lx := (List.getElem?_eq_some_iff.mp hx).1
          have l1 := sq.len
          refine ⟨_, rfl, _, rfl, _, rfl, D, _, rfl, DPut.k (k := Sum.inl (numE d)) (s4 _ _ hD) (Nat.lt_of_le_of_lt (show (heldI xs ds i).length ≤ 1001 by omega) (by decide)), ?_⟩
          refine ⟨some x, some (.int (numE d)), rfl, fun b o e => ?_, ?_, fun j d' hj hj' => ?_⟩
          · have nb : b ≠ D := fun z => by rw [z, nDH] at e; cases e
            rw [upd_ne nb]
            exact s4 _ _ (s3 _ _ e)
          · rw [upd_same, heldI_succ hx hd]
          · by_cases ej : j = i
            · subst ej
              rw [hd] at hj'
              cases hj'
              exact ht
            · exact ed j d' (by omega) hj'
      · exact fun σ H' p => fin σ H' p
    · refine .inr ⟨_, rfl, a, rfl, ⟨_, SqT.of (s2 _ _ ha)⟩, for_it (xs := xs) Pv p0 ?_ ?_ ?_ ?_⟩
      · rintro i σ H' hi ⟨o2, o3, rfl, s3, hD, ed⟩
        refine ⟨⟨xs, xs[i], SqT.of (s3 _ _ ha), List.getElem?_eq_getElem hi⟩, fun x H'' y => ⟨y.1, y.2 _ (SqT.of (s3 _ _ ha))⟩⟩
      · rintro σ H' ⟨o2, o3, rfl, s3, hD, ed⟩
        exact ⟨xs, SqT.of (s3 _ _ ha), Nat.le_refl _⟩
      · rintro i x σ H' hx ⟨o2, o3, rfl, s3, hD, ed⟩
        obtain ⟨d, hd, dv⟩ := sq.dv.at i x hx
        refine ⟨_, rfl, x, d, rfl, dv.more s3, sq.fl d (List.mem_of_getElem? hd), fun hf H'' s4 => ?_, fun ht H'' s4 => ?_⟩
        · refine ⟨_, rfl, rfl, _, rfl, ifT (decide_eq_true rfl) ?_⟩
          exact ⟨_, rfl, bad (fun b o e => s4 b o (s3 b o e)) (qb ⟨d, List.mem_of_getElem? hd, hf⟩)⟩
        · refine ⟨_, rfl, rfl, _, rfl, ifF (decide_eq_false fun e => nomatch e) ?_⟩
          have li := heldI_len ln i (Nat.le_of_lt (List.getElem?_eq_some_iff.mp hx).1)
          have lx := (List.getElem?_eq_some_iff.mp hx).1
          have l1 := sq.len
          refine ⟨_, rfl, _, rfl, _, rfl, D, _, rfl, DPut.k (k := Sum.inl (numE d)) (s4 _ _ hD) (Nat.lt_of_le_of_lt (show (heldI xs ds i).length ≤ 1001 by omega) (by decide)), ?_⟩
          refine ⟨some x, some (.int (numE d)), rfl, fun b o e => ?_, ?_, fun j d' hj hj' => ?_⟩
          · have nb : b ≠ D := fun z => by rw [z, nDH] at e; cases e
            rw [upd_ne nb]
            exact s4 _ _ (s3 _ _ e)
          · rw [upd_same, heldI_succ hx hd]
          · by_cases ej : j = i
            · subst ej
              rw [hd] at hj'
              cases hj'
              exact ht
            · exact ed j d' (by omega) hj'
      · exact fun σ H' p => fin σ H' p
end
end V1
set_option Elab.async false
set_option linter.all false
set_option maxRecDepth 100000
set_option maxHeartbeats 16000000
/-! Figure's __init__, and Figure(..) where it may raise. -/
namespace Nv
open PySem PySem.Spec PyProof.Rows L2
section
variable {X : Cx} {CX : CXT} {k : Nat} {C f : Addr} {fd : FuncData} {ps : List Str} {sp : Sp} {x : Str} {p pos : Pos} {e : Expr} {es : List Expr} {t : TA}
/-- C(e, ..), C's __init__ may raise; what is wanted of it may hang on the names -/
def tMakeS (C : Addr) (sp : Sp) (E : L2.St → XK) (t : TA) : TE := fun σ H Q => t σ H fun vs H1 => ∀ y dx, H1 y = none → H1 dx = none → dx ≠ y → sp (.ref y :: vs) (upd (upd H1 dx (.own y)) y (.ins C dx [])) (fun v H2 => v = .non ∧ Q (.ref y) H2) (E σ)
theorem pe_makeS {E : L2.St → XK} (M : Mk X.K C f) (F : FnOk X.prog X.w X.K X.mg X.base CX k f fd ps sp) (hr : Room (k + 1) X.A) (hg : Gl X x) (hm : X.mg x = some (.ref C)) (hb : Binds X.K fd ps []) (hx : ∀ σ, PassesAt CX X σ (E σ))
    (ha : PA X (e :: es) t) (hdb : (x == ("__debug__" : Str)) = false := by decide) (he : starEach (e :: es) X.env = (false, eval e X.env) :: starEach es X.env := by rfl) (hpl : (backTo pos (starEach es X.env)).any (·.1) = false := by rfl) :
    PE X (.Call (.Name x p) (e :: es) [] pos) (tMakeS C sp E t) := by
  constructor
  intro pins s0 σ H0 Q I0 h0
  refine wpAny_Call_Name_kw (ld_glob I0 hg hm ?_ hdb)
  refine PySem.W.callWith_K (h₀ := X.base) I0.ok.mod.kin M.kp (thn (ha.run pos pins s0 σ H0 _ I0 h0) ?_) he hpl
  rintro us s ⟨vs, H, I, r, q⟩
  refine ⟨I.kIn, ?_⟩
  obtain ⟨y, hy⟩ : ∃ y, y = s.heap.objs.size + 1 := ⟨_, rfl⟩
  have z := q y s.heap.objs.size (I.hok.fresh (by rw [hy]; exact Nat.le_succ _)) (I.hok.fresh (Nat.le_refl _)) (by rw [hy]; exact Nat.ne_of_lt (Nat.lt_succ_self _))
  have J := Inv.made (C := C) I
  rw [← hy] at J
  have rr : Vals (V.ref y :: vs) (Value.ref y :: us) := .cons rfl r
  have ln : ((Value.ref y :: us) ++ []).length = ps.length := by
    rw [List.append_nil, ← rr.length]
    exact F.len _ _ _ _ z
  have bd := hb _ (Value.ref y :: us) J.kIn ln
  rw [List.append_nil] at bd
  refine wpAny_call (make_map (f := f) I.kIn M.makes M.init (beq_iff_eq.mp M.fn) ?_)
  rw [← hy]
  refine codeAny_mono (F.run _ X.stack _ _ ⟨Value.ref y :: us, []⟩ _ _ _ (E σ) (hr.make C us []) (J.env0.make C us []) bd rr z) ?_
  rintro (er | (_ | _ | _ | u)) s' g
  · exact hx σ pins _ _ er s' J g
  · exact g.elim
  · exact g.elim
  · exact g.elim
  · obtain ⟨v, H', I3, rv, ev, q3⟩ := J.after g
    subst ev
    exact ⟨rv, ⟨V.ref y, H', I3, rfl, q3⟩⟩
end
end Nv
namespace V1
open PySem PySem.Spec PyProof.Rows L2 Nv
/-- the names of the types of data -/
def tyNs : List String := ["NoneType", "bool", "int", "str", "list", "tuple", "dict"]
/-- what the module says of Figure and Held -/
structure Kf (K : PySem.W.Frag) (mg : Str → Option Value) (CF CH : Addr) : Prop where
  gF : mg "Figure" = some (.ref CF)
  gH : mg "Held" = some (.ref CH)
  most : ∃ t, mg "MOST_EDGES" = some (.int 400 t)
  cls : Cls K CF
  clsH : Cls K CH
  nE : NoAttr K CF "edges"
  nH : NoAttr K CF "_held"
  nL : NoAttr K CF "_letters"
  nF : NoAttr K CF "_forks"
  nG : NoAttr K CF "_ground"
  nB : NoAttr K CH "by_number"
  heldT : ∀ n ∈ tyNs, PySem.W.kitOne K (.type n) (.ref CH) = some false
  heldF : PySem.W.kitOne K (.ref CF) (.ref CH) = some false
  figT : ∀ n ∈ tyNs, PySem.W.kitOne K (.type n) (.ref CF) = some false
  figF : PySem.W.kitOne K (.ref CF) (.ref CF) = some true
  seqF : PySem.W.kitAny K (.ref CF) seqs = some false
  cc : PySem.W.findIn K (.ref CF) "__class__" = some (some (.builtin "object.__class__"))
  gs : PySem.W.specialIn K (.builtin "object.__class__") "__get__" = some (some (.builtin "getset_descriptor.__get__"))
  tk : PySem.W.takesIn K (.builtin "object.__class__") = some true
  ob : PySem.W.mroIn K CF (.type "object") = some true
/-- a figure's fields, its edges at tt, its dict at hh -/
def figFs (tt hh : Addr) : List (Str × V) := [("edges", .ref tt), ("_held", .ref hh), ("_letters", .non), ("_forks", .non), ("_ground", .non)]
/-- a figure with these edges by number -/
def FigAt (CF : Addr) (H : Hp) (x : Addr) (kvs : List (Key × V)) : Prop := ∃ dx tt hh, H x = some (.ins CF dx (figFs tt hh)) ∧ H tt = some (.tup (kvs.map (·.2))) ∧ H hh = some (.dK kvs)
structure Ttl (K : PySem.W.Frag) (mg : Str → Option Value) (C fI : Addr) : Prop where
  xc : Xc K C fI
  gl : mg "TooLarge" = some (.ref C)
def spFig (K : PySem.W.Frag) (CF CH C CT : Addr) : Sp := fun vs H Q E => ∃ x dx v t b, vs = [.ref x, v] ∧ H x = some (.ins CF dx []) ∧ TyX K H v t ∧ PySem.W.kitOne K t (.ref CH) = some false ∧ PySem.W.kitAny K t seqs = some b ∧
  (b = false → ∀ dx H', Same H H' → XD H' dx v → E (.ref C) (some dx) H') ∧
  (b = true → ∃ a xs ds, v = .ref a ∧ SqD H a xs ds ∧ ((∃ d ∈ ds, edgeB d = false) → ∀ dx H', Same H H' → XD H' dx v → E (.ref C) (some dx) H') ∧
    ((∀ d ∈ ds, edgeB d = true) → ∀ kvs, Good xs ds kvs →
      (400 < kvs.length → ∀ dx H', Same H H' → XD H' dx (.int kvs.length) → E (.ref CT) (some dx) H') ∧
      (kvs.length ≤ 400 → ∀ H', But x H H' → FigAt CF H' x kvs → Q .non H')))
section
variable {P : Program} {w : World} {K : PySem.W.Frag} {mg : Str → Option Value} {base : Heap} {C CT CF CH fI : Addr} {fdI : FuncData}
theorem scFi : FnScope ["self", "edges", "held"] ["self", "edges"] (defScope (inClass (top 14) 0)) := ⟨rfl, rfl, rfl, by decide +kernel, rfl, by decide +kernel, by decide +kernel⟩
theorem okND {x qual : Str} {st : Stmt} {dvs : List V} {kws : List (Str × V)} {f : Addr} {fd : FuncData} {N ps : List Str} {k : Nat} {sp : Sp} (F : FunD K x qual (defArgs st) (defBody st) (defScope st) dvs kws f fd) (S : FnScope N ps (defScope st)) (len : ∀ vs H Q E, sp vs H Q E → vs.length = ps.length)
    (hbody : ∀ (cdv : Value) (A : Around) (outer : List Env) (s : Shared) (H : Hp) (vs : List V) (Q : VK) (E : XK), Room k (A.deeper (envOfC qual (defScope st) s.heap.objs.size f cdv)) → sp vs H Q E →
      L2N.Takes (cxOf (L2N.CX P w) P w K mg base N qual (defScope st) f cdv A outer s H E) (fun cls d _ H => E cls d H) →
      ∃ t, PSs (cxOf (L2N.CX P w) P w K mg base N qual (defScope st) f cdv A outer s H E) (defBody st) t ∧ t { nx := fun _ H' => Q .non H', rt := Q } (start N vs) H) : FnOk P w K mg base (L2N.CX P w) (k + 1) f fd ps sp := by
  obtain ⟨oc, od, dV, kV, doc, pm, an, cdv, ct, osl, rfl, lk, hcd, _, _⟩ := F.ex
  exact fn_of lk hcd S len fun A outer s H vs Q E hr hsp => hbody cdv A outer s H vs Q E hr hsp (L2N.takes_of rfl rfl rfl rfl)
theorem bind_fig {dvs : List V} {f : Addr} {fd : FuncData} {kws : List (Str × V)} (F : FunD K "__init__" "Figure.__init__" (defArgs (inClass (top 14) 0)) (defBody (inClass (top 14) 0)) (defScope (inClass (top 14) 0)) dvs kws f fd) (h1 : dvs.length = 1) : Binds K fd ["self", "edges"] [] := by
  obtain ⟨ds, v, b⟩ := F.binds1 (ps := ["self", "edges"]) 2 1 (fun e => by rw [e] at h1; cases h1) (by rw [h1]; rfl) (fun T kV doc pm an cdv ct us its hu hi => by
    rw [h1] at hi
    match us, its, hu, hi with
    | [_, _], [_], _, _ => exact ⟨_, rfl, rfl⟩)
  rw [List.drop_eq_nil_of_le (by rw [h1]; exact Nat.le_refl _)] at v
  cases v
  exact b
theorem ok_fig {dvs : List V} {kws : List (Str × V)} {f fC : Addr} {fd fdC : FuncData} (F : FunD K "__init__" "Figure.__init__" (defArgs (inClass (top 14) 0)) (defBody (inClass (top 14) 0)) (defScope (inClass (top 14) 0)) dvs kws f fd) (T : Ta mg) (X : Tie K mg C fI) (XT : Ttl K mg CT fI) (Z : Kf K mg CF CH) (GI : FnOk P w K mg base CX0 1 fI fdI ["self", "value"] (spIni K)) (bI : Binds K fdI ["self", "value"] [])
    (GC : FnOk P w K mg base (L2N.CX P w) 4 fC fdC ["edges"] (spChk K C)) (AC : At K mg "_checked" fC fdC ["edges"]) :
    FnOk P w K mg base (L2N.CX P w) 5 f fd ["self", "edges"] (spFig K CF CH C CT) := by
  refine okND F scFi (fun vs H Q E h => by obtain ⟨x, dx, v, t, b, rfl, _⟩ := h; rfl) (fun cdv A outer s H vs Q E hr h tk => ?_)
  obtain ⟨x, dx, v, t, b, rfl, hx, ty, kh, kt, qf, qt⟩ := h
  obtain ⟨tM, hM⟩ := Z.most
  refine ⟨_, (pss_cons (ps_set (i := 2) scFi.nd rfl (Or.inl rfl) (pe_ifExp (pt_val (pe_callB call_isi (by rfl) T.isi (by decide +kernel) (pa_cons (pv 1) (pa_cons (pe_glob (v := .ref CH) rfl Z.gH rfl) pa_nil)))) (pe_fld (pv 1) (by rfl)) (pe_callS GC hr rfl AC.g AC.k AC.b (L2N.passAt tk) (pa_cons (pv 1) pa_nil))))
    (pss_cons (ps_if (pt_cmpR op_gt (pe_callB call_lenD (by rfl) T.len (by decide +kernel) (pa_cons (pv 2) pa_nil)) (pe_glob (v := .int 400) rfl hM ⟨_, rfl⟩) (nomark _)) (pss_one (L2N.ps_raise rfl tk (pmk_mkx XT.xc.mx GI (hr.mono (by decide)) bI rfl XT.gl (pe_callB call_lenD (by rfl) T.len (by decide +kernel) (pa_cons (pv 2) pa_nil))))) pss_nil)
    (pss_cons (ps_fld (pv 0) (pe_tupVals rfl (by rfl) T.tup (pv 2)) (by rfl))
    (pss_cons (ps_fld (pv 0) (pv 2) (by rfl)) (pss_cons (ps_fld (pv 0) pe_non (by rfl)) (pss_cons (ps_fld (pv 0) pe_non (by rfl)) (pss_one (ps_fld (pv 0) pe_non (by rfl))))))))), ?_⟩
  refine ⟨_, rfl, _, .ref CH, t, .ref CH, _, rfl, .own _, ty, kh, _, rfl, ?_⟩
  refine ⟨_, rfl, v, t, b, rfl, ty, kt, qf, fun hb => ?_⟩
  obtain ⟨a, xs, ds, rfl, sq, qb, qg⟩ := qt hb
  refine ⟨a, xs, ds, rfl, sq, qb, fun eg h kvs H1 s1 hk gd => ?_⟩
  obtain ⟨qL, qS⟩ := qg eg kvs gd
  have hx1 := s1 _ _ hx
  refine ⟨_, rfl, h, kvs, rfl, hk, _, _, rfl, rfl, _, rfl, ?_⟩
  by_cases big : 400 < kvs.length
  · refine ifT (decide_eq_true (by omega)) ?_
    exact ⟨_, rfl, h, kvs, rfl, hk, fun dy n nd => qL big dy _ (fun b o e => stay (s1 b o e) nd) XD.of⟩
  · refine ifF (decide_eq_false (by omega)) ?_
    refine ⟨_, rfl, h, kvs, rfl, hk, fun tt nt => ⟨_, rfl, x, CF, dx, [], rfl, stay hx1 nt, Z.cls, Z.nE, (by decide), ?_⟩⟩
    have ne : x ≠ tt := ne_of_none hx1 nt
    have ne2 : h ≠ x := fun e => by rw [e, hx1] at hk; cases hk
    have ne3 : h ≠ tt := ne_of_none hk nt
    refine ⟨_, rfl, _, rfl, x, CF, dx, _, rfl, upd_same, Z.cls, Z.nH, (by show 1 < 1000; decide), ?_⟩
    refine ⟨_, rfl, x, CF, dx, _, rfl, upd_same, Z.cls, Z.nL, (by show 2 < 1000; decide), ?_⟩
    refine ⟨_, rfl, x, CF, dx, _, rfl, upd_same, Z.cls, Z.nF, (by show 3 < 1000; decide), ?_⟩
    refine ⟨_, rfl, x, CF, dx, _, rfl, upd_same, Z.cls, Z.nG, (by show 4 < 1000; decide), ?_⟩
    refine qS (by omega) _ (fun c o nc e => ?_) ⟨dx, tt, h, upd_same, ?_, ?_⟩
    · rw [upd_ne nc, upd_ne nc, upd_ne nc, upd_ne nc, upd_ne nc]
      exact stay (s1 _ _ e) nt
    · rw [upd_ne ne.symm, upd_ne ne.symm, upd_ne ne.symm, upd_ne ne.symm, upd_ne ne.symm]
      exact upd_same
    · rw [upd_ne ne2, upd_ne ne2, upd_ne ne2, upd_ne ne2, upd_ne ne2]
      exact stay hk nt
end
end V1
set_option Elab.async false
set_option linter.all false
set_option maxRecDepth 100000
set_option maxHeartbeats 16000000
/-! len(x) by an own __len__; Figure's. -/
namespace Nv
open PySem PySem.Spec PyProof.Rows L2
section
variable {X : Cx} {k : Nat} {C f : Addr} {fd : FuncData} {sp : Sp}
theorem ins_at {pins : List (Addr × Obj)} {σ : L2.St} {H : Hp} {s : Shared} (I : Inv X pins σ H s) {a dx : Addr} {fs : List (Str × V)} (ha : H a = some (.ins C dx fs)) : ∃ od, PySem.W.InstAt s.heap a (PySem.W.instObj C dx) C (some od) := by
  obtain ⟨_, _, _, e, mA, ns, _⟩ := I.hok a _ ha
  obtain ⟨od, hod, _⟩ := lookIn_ns ns
  exact ⟨od, ⟨e, rfl, rfl, hod⟩⟩
def rLenF (C : Addr) (sp : Sp) : List V → Hp → VK → Prop := fun xs H Q => ∃ a dx fs, xs = [.ref a] ∧ H a = some (.ins C dx fs) ∧ sp [.ref a] H (fun v H' => ∃ n : Nat, v = .int n ∧ n < 4294967296 ∧ Q (.int n) H') E0
theorem call_lenF (F : FnOk X.prog X.w X.K X.mg X.base CX0 k f fd ["self"] sp) (hr : Room k X.A.in1) (hb : Binds X.K fd ["self"] []) (hl : PySem.W.findIn X.K (.ref C) "__len__" = some (some (.ref f))) (hf : PySem.W.isFn X.K (.ref f) = true) :
    CallR X (.builtin "len") (rLenF C sp) := by
  rintro pins s σ H xs us Q I r ⟨a, dx, fs, rfl, ha, q⟩
  obtain ⟨_, rfl, rfl⟩ : ∃ u, us = [u] ∧ u = Value.ref a := by
    obtain ⟨u, e, rx⟩ := vals1 r
    exact ⟨u, e, rx⟩
  obtain ⟨od, inst⟩ := ins_at I ha
  obtain ⟨m, fr⟩ := I.fr
  have bd := hb s [.ref a] I.kIn rfl
  rw [List.append_nil] at bd
  refine PySem.W.len_K fr I.ok.mod.kin inst hl hf (wpAny_call (codeAny_mono (F.run X.A.in1 X.stack s H ⟨[.ref a], []⟩ [.ref a] [.ref a] _ E0 hr I.env0.in1 bd (.cons rfl .nil) q) ?_))
  rintro (er | (_ | _ | _ | u)) s' g
  · exact g.elim
  · exact g.elim
  · exact g.elim
  · exact g.elim
  · obtain ⟨v, H', J, rv, n, rfl, small, q2⟩ := I.after g
    obtain ⟨t, rfl⟩ := rv
    exact ⟨⟨by omega, by omega⟩, ⟨.int n, H', J.tok _, ⟨_, rfl⟩, q2⟩⟩
end
end Nv
namespace V1
open PySem PySem.Spec PyProof.Rows L2 Nv
/-- len of a figure -/
def spLenF (CF : Addr) : Sp := fun vs H Q _ => ∃ x kvs, vs = [.ref x] ∧ FigAt CF H x kvs ∧ Q (.int kvs.length) H
section
variable {P : Program} {w : World} {K : PySem.W.Frag} {mg : Str → Option Value} {base : Heap} {CF CH : Addr}
abbrev sLen : Stmt := inClass (top 14) 7
theorem scLe : FnScope ["self"] ["self"] (defScope sLen) := ⟨rfl, rfl, rfl, by decide +kernel, rfl, by decide +kernel, by decide +kernel⟩
theorem ok_lenF {f : Addr} {fd : FuncData} (F : Fun K "__len__" "Figure.__len__" sLen f fd) (T : Ta mg) (Z : Kf K mg CF CH) : FnOk P w K mg base CX0 1 f fd ["self"] (spLenF CF) := by
  refine F.ok scLe (fun vs H Q E h => by obtain ⟨x, kvs, rfl, _⟩ := h; rfl) (fun cdv A outer s H vs Q E hr h => ?_)
  obtain ⟨x, kvs, rfl, ⟨dx, tt, hh, h1, h2, h3⟩, q⟩ := h
  refine ⟨_, pss_one (ps_ret (pe_callB call_len_seq (by rfl) T.len PySem.boot_len (pa_cons (pe_fld (pv 0) (by rfl)) pa_nil))), ?_⟩
  refine ⟨_, rfl, x, CF, dx, _, .ref tt, rfl, h1, Z.cls, Z.nE, rfl, tt, _, rfl, .inr (SqT.of h2), ?_⟩
  rw [List.length_map]
  exact q
end
end V1
set_option Elab.async false
set_option linter.all false
set_option maxRecDepth 100000
set_option maxHeartbeats 4000000
/-! The data layer: what a def does, told over plain data; objects that nobody changes are data, lists that one name alone holds are owned. -/
namespace DL
open PySem PySem.Spec PyProof.Rows L2 Nv

inductive Dat (Ω : Type) where
  | non | bl (b : Bool) | int (i : Int) | str (x : Str)
  | lst (ds : List (Dat Ω)) | tup (ds : List (Dat Ω))
  | dK (ks : List Key) (ds : List (Dat Ω)) | dT (ks : List (List Key)) (ds : List (Dat Ω))
  | obj (o : Ω)
inductive GO (Ω : Type) where
  | ho (o : HO) | ob (o : Ω)
abbrev Gh (Ω : Type) := Addr → Option (GO Ω)
def gup {Ω : Type} (g : Gh Ω) (a : Addr) (o : GO Ω) : Gh Ω := fun b => if b = a then some o else g b
def Le {Ω : Type} (g g' : Gh Ω) : Prop := ∀ a o, g a = some o → g' a = some o
/-- a written tuple -/
def WrT (K : PySem.W.Frag) (a : Addr) (xs : List V) : Prop := ∃ (o : Obj) (its : Array Value) (n : Nat), K.lookup a = some o ∧ o.cls = .type "tuple" ∧ o.data = .seq its n ∧ its.size ≤ sizeLine ∧ Vals xs its.toList
section
variable {Ω : Type}
theorem gup_same {g : Gh Ω} {a : Addr} {o : GO Ω} : gup g a o a = some o := if_pos rfl
theorem gup_ne {g : Gh Ω} {a b : Addr} {o : GO Ω} (h : b ≠ a) : gup g a o b = g b := if_neg h
theorem Le.refl (g : Gh Ω) : Le g g := fun _ _ e => e
theorem Le.tr {a b c : Gh Ω} (h : Le a b) (k : Le b c) : Le a c := fun x o e => k x o (h x o e)
theorem Le.up {g : Gh Ω} {a : Addr} {o : GO Ω} (n : g a = none) : Le g (gup g a o) := fun b u e => by
  rw [gup_ne (fun z => by rw [z, n] at e; cases e)]
  exact e
mutual
inductive DV (K : PySem.W.Frag) (g : Gh Ω) : V → Dat Ω → Prop
  | non : DV K g .non .non
  | bl (b : Bool) : DV K g (.bl b) (.bl b)
  | int (i : Int) : DV K g (.int i) (.int i)
  | str (x : Str) : DV K g (.str x) (.str x)
  | lst {a : Addr} {xs : List V} {ds : List (Dat Ω)} (h : g a = some (.ho (.lst xs))) (r : DVs K g xs ds) : DV K g (.ref a) (.lst ds)
  | tup {a : Addr} {xs : List V} {ds : List (Dat Ω)} (h : g a = some (.ho (.tup xs))) (r : DVs K g xs ds) : DV K g (.ref a) (.tup ds)
  | dK {a : Addr} {ks : List Key} {xs : List V} {ds : List (Dat Ω)} (h : g a = some (.ho (.dK (ks.zip xs)))) (l : ks.length = xs.length) (r : DVs K g xs ds) : DV K g (.ref a) (.dK ks ds)
  | dT {a : Addr} {ks : List (List Key)} {xs : List V} {ds : List (Dat Ω)} (h : g a = some (.ho (.dT (ks.zip xs)))) (l : ks.length = xs.length) (r : DVs K g xs ds) : DV K g (.ref a) (.dT ks ds)
  | obj {a : Addr} {o : Ω} (h : g a = some (.ob o)) : DV K g (.ref a) (.obj o)
inductive DVs (K : PySem.W.Frag) (g : Gh Ω) : List V → List (Dat Ω) → Prop
  | nil : DVs K g [] []
  | cons {x : V} {xs : List V} {d : Dat Ω} {ds : List (Dat Ω)} (h : DV K g x d) (r : DVs K g xs ds) : DVs K g (x :: xs) (d :: ds)
end
variable {K : PySem.W.Frag} {g g' : Gh Ω}
mutual
theorem DV.more (k : Le g g') : ∀ {v : V} {d : Dat Ω}, DV K g v d → DV K g' v d
  | _, _, .non => .non
  | _, _, .bl b => .bl b
  | _, _, .int i => .int i
  | _, _, .str x => .str x
  | _, _, .lst h r => .lst (k _ _ h) (r.more k)
  | _, _, .tup h r => .tup (k _ _ h) (r.more k)
  | _, _, .dK h l r => .dK (k _ _ h) l (r.more k)
  | _, _, .dT h l r => .dT (k _ _ h) l (r.more k)
  | _, _, .obj h => .obj (k _ _ h)
theorem DVs.more (k : Le g g') : ∀ {vs : List V} {ds : List (Dat Ω)}, DVs K g vs ds → DVs K g' vs ds
  | _, _, .nil => .nil
  | _, _, .cons h r => .cons (h.more k) (r.more k)
end
theorem DVs.length : ∀ {vs : List V} {ds : List (Dat Ω)}, DVs K g vs ds → vs.length = ds.length
  | _, _, .nil => rfl
  | _, _, .cons _ r => by rw [List.length_cons, List.length_cons, r.length]
theorem DVs.at : ∀ {vs : List V} {ds : List (Dat Ω)}, DVs K g vs ds → ∀ (i : Nat) (v : V), vs[i]? = some v → ∃ d, ds[i]? = some d ∧ DV K g v d
  | _, _, .cons h r, 0, v, e => ⟨_, rfl, by cases e; exact h⟩
  | _, _, .cons h r, i + 1, v, e => r.at i v (by simpa using e)
theorem DVs.at' : ∀ {vs : List V} {ds : List (Dat Ω)}, DVs K g vs ds → ∀ (i : Nat) (d : Dat Ω), ds[i]? = some d → ∃ v, vs[i]? = some v ∧ DV K g v d
  | _, _, .cons h r, 0, v, e => ⟨_, rfl, by cases e; exact h⟩
  | _, _, .cons h r, i + 1, v, e => r.at' i v (by simpa using e)
theorem DVs.append : ∀ {xs ys : List V} {ds es : List (Dat Ω)}, DVs K g xs ds → DVs K g ys es → DVs K g (xs ++ ys) (ds ++ es)
  | _, _, _, _, .nil, r => r
  | _, _, _, _, .cons h q, r => .cons h (q.append r)
theorem DVs.take : ∀ {xs : List V} {ds : List (Dat Ω)} (n : Nat), DVs K g xs ds → DVs K g (xs.take n) (ds.take n)
  | _, _, 0, _ => .nil
  | _, _, _ + 1, .nil => .nil
  | _, _, n + 1, .cons h r => .cons h (r.take n)
theorem DVs.drop : ∀ {xs : List V} {ds : List (Dat Ω)} (n : Nat), DVs K g xs ds → DVs K g (xs.drop n) (ds.drop n)
  | _, _, 0, r => r
  | _, _, _ + 1, .nil => .nil
  | _, _, n + 1, .cons h r => r.drop n
theorem DVs.reverse : ∀ {xs : List V} {ds : List (Dat Ω)}, DVs K g xs ds → DVs K g xs.reverse ds.reverse
  | _, _, .nil => .nil
  | _, _, .cons h r => by
    rw [List.reverse_cons, List.reverse_cons]
    exact r.reverse.append (.cons h .nil)
theorem DVs.set : ∀ {xs : List V} {ds : List (Dat Ω)} (i : Nat) {v : V} {d : Dat Ω}, DVs K g xs ds → DV K g v d → DVs K g (xs.set i v) (ds.set i d)
  | _, _, _, _, _, .nil, _ => .nil
  | _, _, 0, _, _, .cons h r, k => .cons k r
  | _, _, i + 1, _, _, .cons h r, k => .cons h (r.set i k)

/-- what is true of objects of one's own classes -/
structure Obs (Ω : Type) where
  ok : Gh Ω → HO → Ω → Prop
  mono : ∀ {g g' : Gh Ω} {h : HO} {o : Ω}, Le g g' → ok g h o → ok g' h o
/-- a slot -/
inductive Sl (Ω : Type) where
  | dat (d : Dat Ω) | own (ds : List (Dat Ω)) | ownK (ks : List Key) (ds : List (Dat Ω)) | box (p : Addr) (m : Nat) | raw (v : V)
def Sl.owned : Sl Ω → Bool
  | .own _ => true
  | .ownK _ _ => true
  | .box _ _ => true
  | _ => false
/-- the box at p: its counter is at most m -/
def BoxAt (H : Hp) (p : Addr) (m : Nat) : Prop := ∃ b0 b1 b2 : Int, H p = some (.lst [.int b0, .int b1, .int b2]) ∧ 0 ≤ b1 ∧ b1 < 2147483648 ∧ 0 ≤ b2 ∧ b2 ≤ (m : Int)
def SlOk (K : PySem.W.Frag) (g : Gh Ω) (H : Hp) (v : V) : Sl Ω → Prop
  | .dat d => DV K g v d
  | .own ds => ∃ L vs, v = .ref L ∧ g L = none ∧ H L = some (.lst vs) ∧ DVs K g vs ds
  | .ownK ks ds => ∃ L vs, v = .ref L ∧ g L = none ∧ H L = some (.dK (ks.zip vs)) ∧ ks.length = vs.length ∧ DVs K g vs ds
  | .box p m => v = .ref p ∧ g p = none ∧ BoxAt H p m
  | .raw w => v = w
def isDic : HO → Bool
  | .dK kvs => !kvs.isEmpty
  | .dT kvs => !kvs.isEmpty
  | _ => false
def Real (W : Obs Ω) (g : Gh Ω) (H : Hp) (a : Addr) : GO Ω → Prop
  | .ho o => H a = some o ∨ (isDic o = true ∧ ∃ ob, H a = some (.frz ob o))
  | .ob o => ∃ h, H a = some h ∧ W.ok g h o
abbrev Gam (Ω : Type) := List (Option (Sl Ω))
structure Rep (K : PySem.W.Frag) (W : Obs Ω) (F : Hp) (g : Gh Ω) (γ : Gam Ω) (σ : L2.St) (H : Hp) : Prop where
  len : σ.length = γ.length
  sl : ∀ (i : Nat) s, γ[i]? = some (some s) → ∃ v, σ[i]? = some (some v) ∧ SlOk K g H v s
  apart : ∀ (i j : Nat) s t L, i ≠ j → γ[i]? = some (some s) → γ[j]? = some (some t) → s.owned = true → t.owned = true → σ[i]? = some (some (.ref L)) → σ[j]? = some (some (.ref L)) → False
  sub : ∀ a o, g a = some o → Real W g H a o
  fr : ∀ a o, F a = some o → H a = some o ∧ g a = none
  fo : ∀ (i : Nat) s L, γ[i]? = some (some s) → s.owned = true → σ[i]? = some (some (.ref L)) → F L = none
/-- only new objects came -/
structure Grow (W : Obs Ω) (g : Gh Ω) (H : Hp) (g' : Gh Ω) (H' : Hp) : Prop where
  le : Le g g'
  keep : ∀ a o, H a = some o → H' a = some o
  sub : ∀ a o, g' a = some o → Real W g' H' a o
  new : ∀ a o, H a = some o → g a = none → g' a = none
theorem Real.mono {W : Obs Ω} {g g' : Gh Ω} {H H' : Hp} {a : Addr} {o : GO Ω} (le : Le g g') (k : ∀ o, H a = some o → H' a = some o) (r : Real W g H a o) : Real W g' H' a o := by
  cases o with
  | ho o =>
    rcases r with r | ⟨d, ob, r⟩
    · exact .inl (k _ r)
    · exact .inr ⟨d, ob, k _ r⟩
  | ob o =>
    obtain ⟨h, e, w⟩ := r
    exact ⟨h, k _ e, W.mono le w⟩
theorem Real.sm {W : Obs Ω} {g : Gh Ω} {H : Hp} {a : Addr} {o : GO Ω} (r : Real W g H a o) : ∃ h, H a = some h := by
  cases o with
  | ho o =>
    rcases r with r | ⟨d, ob, r⟩
    · exact ⟨_, r⟩
    · exact ⟨_, r⟩
  | ob o =>
    obtain ⟨h, e, w⟩ := r
    exact ⟨h, e⟩
theorem gnone {W : Obs Ω} {g : Gh Ω} {H : Hp} {p : Addr} (s : ∀ a o, g a = some o → Real W g H a o) (n : H p = none) : g p = none := by
  cases e : g p with
  | none => rfl
  | some u =>
    obtain ⟨h, e2⟩ := (s _ _ e).sm
    rw [n] at e2
    cases e2
theorem Grow.refl {W : Obs Ω} {g : Gh Ω} {H : Hp} (s : ∀ a o, g a = some o → Real W g H a o) : Grow W g H g H := ⟨.refl g, fun _ _ e => e, s, fun _ _ _ e => e⟩
theorem Grow.tr {W : Obs Ω} {a b c : Gh Ω} {H H1 H2 : Hp} (x : Grow W a H b H1) (y : Grow W b H1 c H2) : Grow W a H c H2 :=
  ⟨x.le.tr y.le, fun p o e => y.keep p o (x.keep p o e), y.sub, fun p o e n => y.new p o (x.keep p o e) (x.new p o e n)⟩
/-- a new object, as data -/
theorem Grow.dat {W : Obs Ω} {g : Gh Ω} {H : Hp} {p : Addr} {o : HO} (s : ∀ a o, g a = some o → Real W g H a o) (n : H p = none) : Grow W g H (gup g p (.ho o)) (upd H p o) := by
  have gn : g p = none := gnone s n
  have kp : ∀ a o', H a = some o' → upd H p o a = some o' := fun a o' e => by
    rw [upd_ne (fun z => by rw [z, n] at e; cases e)]
    exact e
  refine ⟨.up gn, kp, fun a u e => ?_, fun a u e na => ?_⟩
  · by_cases ha : a = p
    · subst ha
      rw [gup_same] at e
      cases e
      exact .inl upd_same
    · rw [gup_ne ha] at e
      exact (s a u e).mono (.up gn) fun o' q => kp a o' q
  · rw [gup_ne (fun z => by rw [z, n] at e; cases e)]
    exact na
/-- a new object, not as data -/
theorem Grow.own {W : Obs Ω} {g : Gh Ω} {H : Hp} {p : Addr} {o : HO} (s : ∀ a o, g a = some o → Real W g H a o) (n : H p = none) : Grow W g H g (upd H p o) := by
  have kp : ∀ a o', H a = some o' → upd H p o a = some o' := fun a o' e => by
    rw [upd_ne (fun z => by rw [z, n] at e; cases e)]
    exact e
  exact ⟨.refl g, kp, fun a u e => (s a u e).mono (.refl g) fun o' q => kp a o' q, fun _ _ _ e => e⟩
variable {W : Obs Ω}
theorem SlOk.grow {g g' : Gh Ω} {H H' : Hp} {v : V} {s : Sl Ω} (G : Grow W g H g' H') (h : SlOk K g H v s) : SlOk K g' H' v s := by
  cases s with
  | dat d => exact DV.more G.le h
  | own ds =>
    obtain ⟨L, vs, e, n, hl, r⟩ := h
    exact ⟨L, vs, e, G.new _ _ hl n, G.keep _ _ hl, r.more G.le⟩
  | ownK ks ds =>
    obtain ⟨L, vs, e, n, hl, l, r⟩ := h
    exact ⟨L, vs, e, G.new _ _ hl n, G.keep _ _ hl, l, r.more G.le⟩
  | box p m =>
    obtain ⟨e, n, b0, b1, b2, hp, r⟩ := h
    exact ⟨e, G.new _ _ hp n, b0, b1, b2, G.keep _ _ hp, r⟩
  | raw w => exact h
theorem Rep.grow {F : Hp} {g g' : Gh Ω} {γ : Gam Ω} {σ : L2.St} {H H' : Hp} (R : Rep K W F g γ σ H) (G : Grow W g H g' H') : Rep K W F g' γ σ H' where
  len := R.len
  sl := fun i s e => by
    obtain ⟨v, h1, h2⟩ := R.sl i s e
    exact ⟨v, h1, h2.grow G⟩
  apart := R.apart
  sub := G.sub
  fr := fun a o e => by
    obtain ⟨h1, h2⟩ := R.fr a o e
    exact ⟨G.keep _ _ h1, G.new _ _ h1 h2⟩
  fo := R.fo
/-- a slot is stored -/
theorem Rep.set {F : Hp} {g : Gh Ω} {γ : Gam Ω} {σ : L2.St} {H : Hp} (R : Rep K W F g γ σ H) (i : Nat) {v : V} {s : Sl Ω} (h : SlOk K g H v s)
    (ap : s.owned = true → ∀ L, v = .ref L → F L = none ∧ ∀ (j : Nat) t, γ[j]? = some (some t) → t.owned = true → σ[j]? ≠ some (some (.ref L))) : Rep K W F g (γ.set i (some s)) (σ.set i (some v)) H where
  len := by rw [List.length_set, List.length_set]; exact R.len
  sl := fun j t e => by
    by_cases hj : i = j
    · subst hj
      by_cases hl : i < γ.length
      · rw [List.getElem?_set_self hl] at e
        cases e
        exact ⟨v, by rw [List.getElem?_set_self (by rw [R.len]; exact hl)], h⟩
      · rw [List.getElem?_eq_none (by rw [List.length_set]; omega)] at e
        cases e
    · rw [List.getElem?_set_ne hj] at e
      obtain ⟨u, h1, h2⟩ := R.sl j t e
      exact ⟨u, by rw [List.getElem?_set_ne hj]; exact h1, h2⟩
  apart := fun a b s' t L ne ha hb os ot va vb => by
    by_cases h1 : i = a
    · subst h1
      have hl : i < γ.length := by
        by_cases hl : i < γ.length
        · exact hl
        · rw [List.getElem?_eq_none (by rw [List.length_set]; omega)] at ha
          cases ha
      rw [List.getElem?_set_self hl] at ha
      rw [List.getElem?_set_self (by rw [R.len]; exact hl)] at va
      rw [List.getElem?_set_ne ne] at hb vb
      cases ha
      cases va
      exact (ap os L rfl).2 b t hb ot vb
    · rw [List.getElem?_set_ne h1] at ha va
      by_cases h2 : i = b
      · subst h2
        have hl : i < γ.length := by
          by_cases hl : i < γ.length
          · exact hl
          · rw [List.getElem?_eq_none (by rw [List.length_set]; omega)] at hb
            cases hb
        rw [List.getElem?_set_self hl] at hb
        rw [List.getElem?_set_self (by rw [R.len]; exact hl)] at vb
        cases hb
        cases vb
        exact (ap ot L rfl).2 a s' ha os va
      · rw [List.getElem?_set_ne h2] at hb vb
        exact R.apart a b s' t L ne ha hb os ot va vb
  sub := R.sub
  fr := R.fr
  fo := fun j t L e ot ev => by
    by_cases h1 : i = j
    · subst h1
      have hl : i < γ.length := by
        by_cases hl : i < γ.length
        · exact hl
        · rw [List.getElem?_eq_none (by rw [List.length_set]; omega)] at e
          cases e
      rw [List.getElem?_set_self hl] at e
      rw [List.getElem?_set_self (by rw [R.len]; exact hl)] at ev
      cases e
      cases ev
      exact (ap ot L rfl).1
    · rw [List.getElem?_set_ne h1] at e ev
      exact R.fo j t L e ot ev
/-- a slot that is not owned -/
theorem Rep.setD {F : Hp} {g : Gh Ω} {γ : Gam Ω} {σ : L2.St} {H : Hp} (R : Rep K W F g γ σ H) (i : Nat) {v : V} {d : Dat Ω} (h : DV K g v d) : Rep K W F g (γ.set i (some (.dat d))) (σ.set i (some v)) H :=
  R.set i (s := .dat d) h fun e => nomatch e
/-- a slot is forgotten -/
theorem Rep.unset {F : Hp} {g : Gh Ω} {γ : Gam Ω} {σ : L2.St} {H : Hp} (R : Rep K W F g γ σ H) (i : Nat) (x : Option V) : Rep K W F g (γ.set i none) (σ.set i x) H where
  len := by rw [List.length_set, List.length_set]; exact R.len
  sl := fun j t e => by
    by_cases hj : i = j
    · subst hj
      by_cases hl : i < γ.length
      · rw [List.getElem?_set_self hl] at e
        cases e
      · rw [List.getElem?_eq_none (by rw [List.length_set]; omega)] at e
        cases e
    · rw [List.getElem?_set_ne hj] at e
      obtain ⟨u, h1, h2⟩ := R.sl j t e
      exact ⟨u, by rw [List.getElem?_set_ne hj]; exact h1, h2⟩
  apart := fun a b s' t L ne ha hb os ot va vb => by
    have na : i ≠ a := fun z => by
      subst z
      by_cases hl : i < γ.length
      · rw [List.getElem?_set_self hl] at ha
        cases ha
      · rw [List.getElem?_eq_none (by rw [List.length_set]; omega)] at ha
        cases ha
    have nb : i ≠ b := fun z => by
      subst z
      by_cases hl : i < γ.length
      · rw [List.getElem?_set_self hl] at hb
        cases hb
      · rw [List.getElem?_eq_none (by rw [List.length_set]; omega)] at hb
        cases hb
    rw [List.getElem?_set_ne na] at ha va
    rw [List.getElem?_set_ne nb] at hb vb
    exact R.apart a b s' t L ne ha hb os ot va vb
  sub := R.sub
  fr := R.fr
  fo := fun j t L e ot ev => by
    have nj : i ≠ j := fun z => by
      subst z
      by_cases hl : i < γ.length
      · rw [List.getElem?_set_self hl] at e
        cases e
      · rw [List.getElem?_eq_none (by rw [List.length_set]; omega)] at e
        cases e
    rw [List.getElem?_set_ne nj] at e ev
    exact R.fo j t L e ot ev
/-- an owned list becomes data -/
theorem Rep.demote {F : Hp} {g : Gh Ω} {γ : Gam Ω} {σ : L2.St} {H : Hp} (R : Rep K W F g γ σ H) {i : Nat} {ds : List (Dat Ω)} (e : γ[i]? = some (some (.own ds))) :
    ∃ g' v, Le g g' ∧ Rep K W F g' (γ.set i (some (.dat (.lst ds)))) σ H ∧ σ[i]? = some (some v) ∧ DV K g' v (.lst ds) := by
  obtain ⟨v, hv, L, vs, rfl, gn, hL, r⟩ := R.sl i _ e
  have le : Le g (gup g L (.ho (.lst vs))) := .up gn
  have dv : DV K (gup g L (.ho (.lst vs))) (.ref L) (.lst ds) := .lst gup_same (r.more le)
  have hl : i < γ.length := (List.getElem?_eq_some_iff.mp e).1
  refine ⟨gup g L (.ho (.lst vs)), .ref L, le, ?_, hv, dv⟩
  refine ⟨by rw [List.length_set]; exact R.len, fun j t ej => ?_, fun a b s t L' ne ha hb os ot va vb => ?_, fun a o ea => ?_, fun a o ea => ?_, fun j t L' ej ot vj => ?_⟩
  · by_cases hj : i = j
    · subst hj
      rw [List.getElem?_set_self hl] at ej
      cases ej
      exact ⟨_, hv, dv⟩
    · rw [List.getElem?_set_ne hj] at ej
      obtain ⟨u, h1, h2⟩ := R.sl j t ej
      refine ⟨u, h1, ?_⟩
      cases t with
      | dat d => exact DV.more le h2
      | own es =>
        obtain ⟨L2, ws, rfl, n2, e2, r2⟩ := h2
        have ne : L2 ≠ L := fun z => R.apart i j _ _ L hj e ej rfl rfl hv (by rw [h1, z])
        exact ⟨L2, ws, rfl, by rw [gup_ne ne]; exact n2, e2, r2.more le⟩
      | ownK ks es =>
        obtain ⟨L2, ws, rfl, n2, e2, l2, r2⟩ := h2
        have ne : L2 ≠ L := fun z => R.apart i j _ _ L hj e ej rfl rfl hv (by rw [h1, z])
        exact ⟨L2, ws, rfl, by rw [gup_ne ne]; exact n2, e2, l2, r2.more le⟩
      | box p m =>
        obtain ⟨rfl, n2, b⟩ := h2
        have ne : p ≠ L := fun z => R.apart i j _ _ L hj e ej rfl rfl hv (by rw [h1, z])
        exact ⟨rfl, by rw [gup_ne ne]; exact n2, b⟩
      | raw w => exact h2
  · have na : i ≠ a := fun z => by
      subst z
      rw [List.getElem?_set_self hl] at ha
      cases ha
      cases os
    have nb : i ≠ b := fun z => by
      subst z
      rw [List.getElem?_set_self hl] at hb
      cases hb
      cases ot
    rw [List.getElem?_set_ne na] at ha
    rw [List.getElem?_set_ne nb] at hb
    exact R.apart a b s t L' ne ha hb os ot va vb
  · by_cases hz : a = L
    · subst hz
      rw [gup_same] at ea
      cases ea
      exact .inl hL
    · rw [gup_ne hz] at ea
      exact (R.sub a o ea).mono le fun _ q => q
  · obtain ⟨h1, h2⟩ := R.fr a o ea
    refine ⟨h1, ?_⟩
    have ne : a ≠ L := fun z => by
      have := R.fo i _ L e rfl hv
      rw [z, this] at ea
      cases ea
    rw [gup_ne ne]
    exact h2
  · have nj : i ≠ j := fun z => by
      subst z
      rw [List.getElem?_set_self hl] at ej
      cases ej
      cases ot
    rw [List.getElem?_set_ne nj] at ej
    exact R.fo j t L' ej ot vj
end
end DL
set_option Elab.async false
set_option linter.all false
set_option maxRecDepth 100000
set_option maxHeartbeats 4000000
namespace DL
open PySem PySem.Spec PyProof.Rows L2 Nv

theorem PEc {X : Cx} {e : Expr} {t t' : TE} (h : PE X e t) (k : ∀ σ H Q, t' σ H Q → t σ H Q) : PE X e t' := ⟨fun pins s σ H Q I q => h.run pins s σ H Q I (k σ H Q q)⟩
theorem PTc {X : Cx} {e : Expr} {t t' : TT} (h : PT X e t) (k : ∀ σ H Q, t' σ H Q → t σ H Q) : PT X e t' := ⟨fun pins s σ H Q I q => h.run pins s σ H Q I (k σ H Q q)⟩
theorem PWc {X : Cx} {e : Expr} {t t' : TT} (h : PW X e t) (k : ∀ σ H Q, t' σ H Q → t σ H Q) : PW X e t' := ⟨fun wh pins s σ H Q I q => h.run wh pins s σ H Q I (k σ H Q q)⟩
theorem PSc {X : Cx} {e : Stmt} {t t' : TS} (h : PS X e t) (k : ∀ D σ H, t' D σ H → t D σ H) : PS X e t' := ⟨fun pins s σ H D I q => h.run pins s σ H D I (k D σ H q)⟩
theorem PSsc {X : Cx} {e : List Stmt} {t t' : TS} (h : PSs X e t) (k : ∀ D σ H, t' D σ H → t D σ H) : PSs X e t' := ⟨fun pins s σ H D I q => h.run pins s σ H D I (k D σ H q)⟩

section
variable {Ω : Type} {K : PySem.W.Frag} {W : Obs Ω}
abbrev DE (Ω : Type) := Gam Ω → (Dat Ω → Gam Ω → Prop) → Prop
abbrev DT (Ω : Type) := Gam Ω → (Bool → Gam Ω → Prop) → Prop
def up (K : PySem.W.Frag) (W : Obs Ω) (T : DE Ω) : TE := fun σ H Q => ∃ F g γ q, Rep K W F g γ σ H ∧ T γ q ∧ ∀ d γ' v H' g', q d γ' → Le g g' → Rep K W F g' γ' σ H' → DV K g' v d → Q v H'
/-- a new list, not yet data -/
def upF (K : PySem.W.Frag) (W : Obs Ω) (T : DE Ω) : TE := fun σ H Q => ∃ F g γ q, Rep K W F g γ σ H ∧ T γ q ∧ ∀ zs γ' ws L H1 g1, q (.lst zs) γ' → Le g g1 → Rep K W F g1 γ' σ H1 → H1 L = none → DVs K g1 ws zs → Q (.ref L) (upd H1 L (.lst ws))
def upT (K : PySem.W.Frag) (W : Obs Ω) (T : DT Ω) : TT := fun σ H Q => ∃ F g γ q, Rep K W F g γ σ H ∧ T γ q ∧ ∀ b γ' H' g', q b γ' → Le g g' → Rep K W F g' γ' σ H' → Q b H'
inductive Opn (Ω : Type) where
  | nm (i : Nat) | ex (T : DE Ω)
def upO (K : PySem.W.Frag) (W : Obs Ω) : Opn Ω → TE
  | .nm i => tVar i
  | .ex T => up K W T
def upA (K : PySem.W.Frag) (W : Obs Ω) : List (Opn Ω) → TA
  | [] => tNil
  | A :: As => tCons (upO K W A) (upA K W As)
def known (s : Option (Option (Sl Ω))) : Bool := match s with
  | some (some _) => true
  | _ => false
def evL : List (Opn Ω) → Gam Ω → (List (Option (Dat Ω)) → Gam Ω → Prop) → Prop
  | [], γ, r => r [] γ
  | .nm i :: As, γ, r => match γ[i]? with
    | some (some _) => evL As γ fun os γ' => r (none :: os) γ'
    | _ => False
  | .ex T :: As, γ, r => T γ fun d γ1 => evL As γ1 fun os γ' => r (some d :: os) γ'
/-- a slot's datum -/
def sd : Option (Option (Sl Ω)) → Option (Dat Ω)
  | some (some (.dat d)) => some d
  | some (some (.own ds)) => some (.lst ds)
  | some (some (.ownK ks ds)) => some (.dK ks ds)
  | _ => none
def late : List (Opn Ω) → List (Option (Dat Ω)) → Gam Ω → (List (Dat Ω) → Prop) → Prop
  | [], [], _, r => r []
  | .nm i :: As, _ :: os, γ, r => match sd γ[i]? with
    | some d => late As os γ fun ds => r (d :: ds)
    | none => False
  | .ex _ :: As, some d :: os, γ, r => late As os γ fun ds => r (d :: ds)
  | _, _, _, _ => False
def tOps (As : List (Opn Ω)) (f : List (Dat Ω) → (Dat Ω → Prop) → Prop) : DE Ω := fun γ q => evL As γ fun os γ' => late As os γ' fun ds => f ds fun z => q z γ'
def tOpsT (As : List (Opn Ω)) (f : List (Dat Ω) → (Bool → Prop) → Prop) : DT Ω := fun γ q => evL As γ fun os γ' => late As os γ' fun ds => f ds fun z => q z γ'

/-- a value for the time being -/
inductive PV (K : PySem.W.Frag) (g : Gh Ω) (H : Hp) : V → Dat Ω → Prop
  | dat {v : V} {d : Dat Ω} (h : DV K g v d) : PV K g H v d
  | own {L : Addr} {vs : List V} {ds : List (Dat Ω)} (h : H L = some (.lst vs)) (r : DVs K g vs ds) : PV K g H (.ref L) (.lst ds)
  | ownK {L : Addr} {ks : List Key} {vs : List V} {ds : List (Dat Ω)} (h : H L = some (.dK (ks.zip vs))) (l : ks.length = vs.length) (r : DVs K g vs ds) : PV K g H (.ref L) (.dK ks ds)
inductive PVs (K : PySem.W.Frag) (g : Gh Ω) (H : Hp) : List V → List (Dat Ω) → Prop
  | nil : PVs K g H [] []
  | cons {v : V} {vs : List V} {d : Dat Ω} {ds : List (Dat Ω)} (h : PV K g H v d) (r : PVs K g H vs ds) : PVs K g H (v :: vs) (d :: ds)
/-- what was evaluated -/
inductive Tm (K : PySem.W.Frag) (σ : L2.St) (g : Gh Ω) : List (Opn Ω) → List (Option (Dat Ω)) → List V → Prop
  | nil : Tm K σ g [] [] []
  | nm {i : Nat} {v : V} {As : List (Opn Ω)} {os : List (Option (Dat Ω))} {vs : List V} (h : σ[i]? = some (some v)) (r : Tm K σ g As os vs) : Tm K σ g (.nm i :: As) (none :: os) (v :: vs)
  | ex {T : DE Ω} {d : Dat Ω} {v : V} {As : List (Opn Ω)} {os : List (Option (Dat Ω))} {vs : List V} (h : DV K g v d) (r : Tm K σ g As os vs) : Tm K σ g (.ex T :: As) (some d :: os) (v :: vs)
theorem Rep.at {F : Hp} {g : Gh Ω} {γ : Gam Ω} {σ : L2.St} {H : Hp} (R : Rep K W F g γ σ H) {i : Nat} {s : Sl Ω} (e : γ[i]? = some (some s)) : ∃ v, σ[i]? = some (some v) ∧ SlOk K g H v s := R.sl i s e
theorem ev_sound : ∀ (As : List (Opn Ω)) {F : Hp} {g : Gh Ω} {γ : Gam Ω} {σ : L2.St} {H : Hp} {r : List (Option (Dat Ω)) → Gam Ω → Prop} {Q : List V → Hp → Prop}, Rep K W F g γ σ H → evL As γ r →
    (∀ os γ' g' vs H', r os γ' → Le g g' → Rep K W F g' γ' σ H' → Tm K σ g' As os vs → Q vs H') → upA K W As σ H Q
  | [], F, g, γ, σ, H, r, Q, R, e, k => k [] γ g [] H e (.refl g) R .nil
  | .nm i :: As, F, g, γ, σ, H, r, Q, R, e, k => by
    unfold evL at e
    split at e
    · rename_i s hs
      obtain ⟨v, hv, _⟩ := R.sl i s hs
      exact ⟨v, hv, ev_sound As R e fun os γ' g' vs H' q le R' t => k _ _ _ _ _ q le R' (.nm hv t)⟩
    · exact e.elim
  | .ex T :: As, F, g, γ, σ, H, r, Q, R, e, k => by
    unfold evL at e
    exact ⟨F, g, γ, _, R, e, fun d γ' v H' g' q le R' dv => ev_sound As R' q fun os γ2 g2 vs H2 q2 le2 R2 t => k _ _ _ _ _ q2 (le.tr le2) R2 (.ex (dv.more le2) t)⟩
theorem late_sound : ∀ {As : List (Opn Ω)} {os : List (Option (Dat Ω))} {vs : List V} {F : Hp} {g : Gh Ω} {γ : Gam Ω} {σ : L2.St} {H : Hp} {r : List (Dat Ω) → Prop}, Rep K W F g γ σ H → Tm K σ g As os vs → late As os γ r → ∃ ds, r ds ∧ PVs K g H vs ds
  | _, _, _, F, g, γ, σ, H, r, R, .nil, e => ⟨[], e, .nil⟩
  | _, _, _, F, g, γ, σ, H, r, R, .nm (i := i) hv t, e => by
    unfold late at e
    split at e
    · rename_i d hd
      obtain ⟨ds, q, p⟩ := late_sound R t e
      refine ⟨_, q, .cons ?_ p⟩
      unfold sd at hd
      split at hd
      · rename_i d' hs
        cases hd
        obtain ⟨v', hv', ok⟩ := R.sl i _ hs
        rw [hv] at hv'
        cases hv'
        exact .dat ok
      · rename_i d' hs
        cases hd
        obtain ⟨v', hv', L, ws, rfl, gn, hL, rr⟩ := R.sl i _ hs
        rw [hv] at hv'
        cases hv'
        exact .own hL rr
      · rename_i ks d' hs
        cases hd
        obtain ⟨v', hv', L, ws, rfl, gn, hL, l, rr⟩ := R.sl i _ hs
        rw [hv] at hv'
        cases hv'
        exact .ownK hL l rr
      · cases hd
    · exact e.elim
  | _, _, _, F, g, γ, σ, H, r, R, .ex dv t, e => by
    unfold late at e
    obtain ⟨ds, q, p⟩ := late_sound R t e
    exact ⟨_, q, .cons (.dat dv) p⟩
abbrev Subs (W : Obs Ω) (g : Gh Ω) (H : Hp) : Prop := ∀ a o, g a = some o → Real W g H a o
/-- an operation on data -/
def OpD (K : PySem.W.Frag) (W : Obs Ω) (r : List V → Hp → VK → Prop) (f : List (Dat Ω) → (Dat Ω → Prop) → Prop) : Prop :=
  ∀ g H vs ds k Q, Subs W g H → PVs K g H vs ds → f ds k → (∀ z w g' H', k z → Grow W g H g' H' → DV K g' w z → Q w H') → r vs H Q
/-- .. that gives a new list -/
def OpF (K : PySem.W.Frag) (W : Obs Ω) (r : List V → Hp → VK → Prop) (f : List (Dat Ω) → (Dat Ω → Prop) → Prop) : Prop :=
  ∀ g H vs ds k Q, Subs W g H → PVs K g H vs ds → f ds k → (∀ zs ws L g1 H1, k (.lst zs) → Grow W g H g1 H1 → H1 L = none → DVs K g1 ws zs → Q (.ref L) (upd H1 L (.lst ws))) → r vs H Q
/-- a test -/
def OpT (K : PySem.W.Frag) (W : Obs Ω) (r : List V → Hp → (Bool → Hp → Prop) → Prop) (f : List (Dat Ω) → (Bool → Prop) → Prop) : Prop :=
  ∀ g H vs ds k Q, Subs W g H → PVs K g H vs ds → f ds k → (∀ z g' H', k z → Grow W g H g' H' → Q z H') → r vs H Q
theorem OpF.d {r : List V → Hp → VK → Prop} {f : List (Dat Ω) → (Dat Ω → Prop) → Prop} (h : OpF K W r f) : OpD K W r f := fun g H vs ds k Q s p e q =>
  h g H vs ds k Q s p e fun zs ws L g1 H1 hk G n r => by
    have G2 := Grow.dat (p := L) (o := .lst ws) G.sub n
    exact q _ _ _ _ hk (G.tr G2) (.lst gup_same (r.more G2.le))
section
variable {X : Cx} {e : Expr} {As : List (Opn Ω)} {r : List V → Hp → VK → Prop} {rb : List V → Hp → (Bool → Hp → Prop) → Prop} {f : List (Dat Ω) → (Dat Ω → Prop) → Prop} {fb : List (Dat Ω) → (Bool → Prop) → Prop} {T : DE Ω}
theorem pe_ops (hp : PE X e (fun σ H Q => upA K W As σ H fun vs H' => r vs H' Q)) (ho : OpD K W r f) : PE X e (up K W (tOps As f)) := PEc hp fun σ H Q ⟨F, g, γ, q, R, t, k⟩ =>
  ev_sound As R t fun os γ' g' vs H' l le R' tm => by
    obtain ⟨ds, hf, pv⟩ := late_sound R' tm l
    exact ho g' H' vs ds _ Q R'.sub pv hf fun z w g2 H2 hz G dv => k z γ' w H2 g2 hz (le.tr G.le) (R'.grow G) dv
theorem pf_ops (hp : PE X e (fun σ H Q => upA K W As σ H fun vs H' => r vs H' Q)) (ho : OpF K W r f) : PE X e (upF K W (tOps As f)) := PEc hp fun σ H Q ⟨F, g, γ, q, R, t, k⟩ =>
  ev_sound As R t fun os γ' g' vs H' l le R' tm => by
    obtain ⟨ds, hf, pv⟩ := late_sound R' tm l
    exact ho g' H' vs ds _ Q R'.sub pv hf fun zs ws L g2 H2 hz G n dvs => k zs γ' ws L H2 g2 hz (le.tr G.le) (R'.grow G) n dvs
theorem pt_ops (hp : PT X e (fun σ H Q => upA K W As σ H fun vs H' => rb vs H' Q)) (ho : OpT K W rb fb) : PT X e (upT K W (tOpsT As fb)) := PTc hp fun σ H Q ⟨F, g, γ, q, R, t, k⟩ =>
  ev_sound As R t fun os γ' g' vs H' l le R' tm => by
    obtain ⟨ds, hf, pv⟩ := late_sound R' tm l
    exact ho g' H' vs ds _ Q R'.sub pv hf fun z g2 H2 hz G => k z γ' H2 g2 hz (le.tr G.le) (R'.grow G)
theorem pf_pe (h : PE X e (upF K W T)) : PE X e (up K W T) := PEc h fun σ H Q ⟨F, g, γ, q, R, t, k⟩ => ⟨F, g, γ, q, R, t, fun zs γ' ws L H1 g1 hq le R1 n r => by
  have G2 := Grow.dat (p := L) (o := .lst ws) R1.sub n
  exact k _ γ' _ _ _ hq (le.tr G2.le) (R1.grow G2) (.lst gup_same (r.more G2.le))⟩
/-! ### names, constants -/
def tC' (d : Dat Ω) : DE Ω := fun γ q => q d γ
theorem pd_int {i j pos} : PE X (.Constant (.int i) j pos) (up K W (tC' (.int i))) := PEc pe_int fun σ H Q ⟨F, g, γ, q, R, t, k⟩ => k _ γ _ H g t (.refl g) R (.int i)
theorem pd_str {x j pos} : PE X (.Constant (.str x) j pos) (up K W (tC' (.str x))) := PEc pe_str fun σ H Q ⟨F, g, γ, q, R, t, k⟩ => k _ γ _ H g t (.refl g) R (.str x)
theorem pd_bl {b j pos} : PE X (.Constant (.bool b) j pos) (up K W (tC' (.bl b))) := PEc pe_bl fun σ H Q ⟨F, g, γ, q, R, t, k⟩ => k _ γ _ H g t (.refl g) R (.bl b)
theorem pd_non {j pos} : PE X (.Constant .none j pos) (up K W (tC' .non)) := PEc pe_non fun σ H Q ⟨F, g, γ, q, R, t, k⟩ => k _ γ _ H g t (.refl g) R .non
/-- a name's value, to be kept -/
def tN (i : Nat) : DE Ω := fun γ q => match γ[i]? with
  | some (some (.dat d)) => q d γ
  | some (some (.own ds)) => q (.lst ds) (γ.set i (some (.dat (.lst ds))))
  | _ => False
theorem pd_name {i : Nat} (h : PE X e (tVar i)) : PE X e (up K W (tN i)) := PEc h fun σ H Q ⟨F, g, γ, q, R, t, k⟩ => by
  unfold tN at t
  split at t
  · rename_i d hd
    obtain ⟨v, hv, ok⟩ := R.sl i _ hd
    exact ⟨v, hv, k _ γ _ H g t (.refl g) R ok⟩
  · rename_i ds hd
    obtain ⟨g', v, le, R', hv, dv⟩ := R.demote hd
    exact ⟨v, hv, k _ _ _ H g' t le R' dv⟩
  · exact t.elim
theorem po_name {i : Nat} (h : PE X e (tVar i)) : PE X e (upO K W (.nm i)) := h
theorem po_ex (h : PE X e (up K W T)) : PE X e (upO K W (.ex T)) := h
theorem pa0 : PA X [] (upA K W []) := pa_nil
theorem pa1 {A : Opn Ω} {es : List Expr} (h : PE X e (upO K W A)) (t : PA X es (upA K W As)) (hs : starEach (e :: es) X.env = (false, eval e X.env) :: starEach es X.env := by rfl) : PA X (e :: es) (upA K W (A :: As)) := pa_cons h t hs
end
end
end DL
set_option Elab.async false
set_option linter.all false
set_option maxRecDepth 100000
set_option maxHeartbeats 4000000
namespace DL
open PySem PySem.Spec PyProof.Rows L2 Nv
/-! ### tuples: whole slices, empty ones joined -/
theorem getItem_tuple_whole {prog : Program} {w : World} {A : Around} {E : Value → Shared → Prop} {s : Shared} {t sl : Addr} {items : Array Value} {vl vu : Value} {lo hi : Option Int} {Q : Value → Shared → Prop}
    (ht : IsTup s.heap t items) (hs : s.heap.IsSliceOf sl vl vu Value.none) (pl : IsPart vl lo) (pu : IsPart vu hi) (hw : HT.sIx items.size 0 lo = 0 ∧ HT.sIx items.size items.size hi = items.size) (h : Q (Value.ref t) s) :
    wpAny (model prog w) A (getItem (Value.ref t) (Value.ref sl)) Q E s := by
  obtain ⟨os, hos, hcs, hds⟩ := id hs
  have hTs : s.TypeIs (.ref sl) "slice" := ⟨os, hos, hcs⟩
  refine wpAny_holding (wpAny_bind (wpAny_sequenceKey ht.typeIs (of_decide_eq_true rfl) (wpAny_bind (wpAny_callSpecial?_slot ht.typeIs slot_tuple_getitem (wpAny_call_entry slot_tuple_getitem ht.typeIs entry_tuple_getitem ?_ (args_tuple_getitem _ _))))))
  show wpAny _ _ (Builtin.Tuple.tupleItemsOf _ >>= _) _ _ _
  refine wpAny_bind (tupleItemsOf_ ht (wpAny_bind (wpAny_typeOf hTs ?_)))
  rw [if_pos (of_decide_eq_true rfl)]
  refine wpAny_bind (HT.sliceApplied_gen hs pl pu ?_)
  show wpAny _ _ (if ((((HT.sIx items.size 0 lo : Nat) : Int) == 0 && (1 : Int) == 1 && (HT.sIx items.size items.size hi - HT.sIx items.size 0 lo == items.size)) = true) then _ else _) _ _ _
  rw [if_pos (by rw [hw.1, hw.2]; simp)]
  refine wpAny_bind ?_
  show wpAny _ _ (typeOf _ >>= _) _ _ _
  refine wpAny_bind (wpAny_typeOf ht.typeIs (wpAny_pure ?_))
  rw [if_pos (of_decide_eq_true rfl)]
  exact wpAny_bind (wpAny_rule (wpAny_pure ⟨_, rfl, wpAny_pure h⟩))
/-- a slice of a tuple, the whole one too -/
def rSlW (K : PySem.W.Frag) : V → Option Int → Option Int → Hp → VK → Prop := fun x lo hi H Q => ∃ a xs, x = .ref a ∧ SqT K H a xs ∧
  ((HT.sIx xs.length 0 lo = 0 ∧ HT.sIx xs.length xs.length hi = xs.length) → Q (.ref a) H) ∧ (¬ (HT.sIx xs.length 0 lo = 0 ∧ HT.sIx xs.length xs.length hi = xs.length) → ∀ p, H p = none → Q (.ref p) (upd H p (.tup (cutV xs lo hi))))
theorem sl_tupW {X : Cx} : SlR X (rSlW X.K) := by
  intro pins s σ H x v vl vu lo hi sl Q I rx hs pl pu h
  obtain ⟨a, xs, rfl, hx, q1, q2⟩ := h
  by_cases hw : HT.sIx xs.length 0 lo = 0 ∧ HT.sIx xs.length xs.length hi = xs.length
  · cases (show v = Value.ref a from rx)
    obtain ⟨its, r, ht, hz⟩ := Inv.tuple I hx
    have hlen : its.toArray.size = xs.length := by
      rw [List.size_toArray]
      exact (Vals.length r).symm
    exact ⟨"tuple", "tuple.__getitem__", slot_tuple_getitem.lookup, IsTup.typeIs ht, getItem_tuple_whole ht hs pl pu (by rw [hlen]; exact hw) ⟨.ref a, H, I, rfl, q1 hw⟩⟩
  · exact sl_tup pins s σ H _ v vl vu lo hi sl Q I rx hs pl pu ⟨a, xs, rfl, hx, hw, q2 hw⟩
/-- tuples joined, an empty one too -/
def rCatW (K : PySem.W.Frag) : R2 := fun x y H Q => ∃ a b xs ys, x = .ref a ∧ y = .ref b ∧ SqT K H a xs ∧ SqT K H b ys ∧ xs.length + ys.length ≤ sizeLine ∧ (xs = [] → Q (.ref b) H) ∧ (xs ≠ [] → ys = [] → Q (.ref a) H) ∧ (xs ≠ [] → ys ≠ [] → ∀ p, H p = none → Q (.ref p) (upd H p (.tup (xs ++ ys))))
theorem op_catW {X : Cx} : OpR X (binaryOp .Add) (rCatW X.K) := by
  intro pins s σ H x y v u Q I rx ry h
  obtain ⟨a, b, xs, ys, rfl, rfl, ha, hb, hz, q1, q2, q3⟩ := h
  by_cases hx : xs = []
  · subst hx
    cases (show v = Value.ref a from rx)
    cases (show u = Value.ref b from ry)
    obtain ⟨its, r1, ⟨⟨cls, dd, data, sl⟩, ho, hc, n, hd⟩, _⟩ := Inv.tuple I ha
    obtain ⟨its2, r2, ⟨⟨cls2, dd2, data2, sl2⟩, ho2, hc2, n2, hd2⟩, _⟩ := Inv.tuple I hb
    cases r1
    cases (show cls = .type "tuple" from hc)
    cases (show cls2 = .type "tuple" from hc2)
    cases (show data = _ from hd)
    cases (show data2 = _ from hd2)
    exact concat_meets ⟨_, ho, rfl⟩ ⟨_, ho2, rfl⟩ noFill_tuple_add seq_tuple_add F.slot_tuple_add F.entry_tuple_add (F.args_tuple_add_2 (Value.ref a) (Value.ref b)) (tuple_addW0 a b _ _ n n2 dd dd2 sl sl2 rfl) ⟨ho, ho2, .ref b, H, I, rfl, q1 rfl⟩
  · exact op_catT pins s σ H _ _ v u Q I rx ry ⟨a, b, xs, ys, rfl, rfl, ha, hb, hx, hz, q2 hx, q3 hx⟩

section
variable {Ω : Type} {K : PySem.W.Frag} {W : Obs Ω}
mutual
def py : Dat Ω → Option PyData
  | .non => some .none
  | .bl b => some (.bool b)
  | .int i => some (.int i)
  | .str s => some (.str s)
  | .lst ds => (pys ds).map PyData.list
  | .tup ds => (pys ds).map PyData.tuple
  | _ => none
termination_by structural d => d
def pys : List (Dat Ω) → Option (List PyData)
  | [] => some []
  | d :: ds => match py d, pys ds with
    | some p, some ps => some (p :: ps)
    | _, _ => none
termination_by structural d => d
end
theorem Real.ho {g : Gh Ω} {H : Hp} {a : Addr} {o : HO} (s : Subs W g H) (e : g a = some (.ho o)) (n : isDic o = false := by rfl) : H a = some o := by
  rcases s a _ e with h | ⟨d, _⟩
  · exact h
  · rw [n] at d
    cases d
theorem Real.rd {g : Gh Ω} {H : Hp} {a : Addr} {o : HO} (s : Subs W g H) (e : g a = some (.ho o)) : Rd H a o := by
  rcases s a _ e with h | ⟨d, ob, h⟩
  · exact .inl h
  · exact .inr ⟨ob, h⟩
theorem wrT {K : PySem.W.Frag} {H : Hp} {a : Addr} {xs : List V} (h : WrT K a xs) : SqT K H a xs := .inr h
mutual
theorem dv_dp {g : Gh Ω} {H : Hp} (s : Subs W g H) : ∀ {v : V} {d : Dat Ω} {p : PyData}, DV K g v d → py d = some p → Dp K H v p
  | _, _, _, .non, e => by cases e; exact .non
  | _, _, _, .bl b, e => by cases e; exact .bl b
  | _, _, _, .int i, e => by cases e; exact .int i
  | _, _, _, .str x, e => by cases e; exact .str x
  | _, _, _, .lst (ds := ds) h r, e => by
    unfold py at e
    cases h2 : pys ds with
    | none => rw [h2] at e; cases e
    | some ps =>
      rw [h2] at e
      cases e
      exact .lst (SqL.of (Real.ho s h)) (dvs_dp s r h2)
  | _, _, _, .tup (ds := ds) h r, e => by
    unfold py at e
    cases h2 : pys ds with
    | none => rw [h2] at e; cases e
    | some ps =>
      rw [h2] at e
      cases e
      exact .tup (SqT.of (Real.ho s h)) (dvs_dp s r h2)
  | _, _, _, .dK h l r, e => by cases e
  | _, _, _, .dT h l r, e => by cases e
  | _, _, _, .obj h, e => by cases e
theorem dvs_dp {g : Gh Ω} {H : Hp} (s : Subs W g H) : ∀ {vs : List V} {ds : List (Dat Ω)} {ps : List PyData}, DVs K g vs ds → pys ds = some ps → DpAll K H vs ps
  | _, _, _, .nil, e => by cases e; exact .nil
  | _, _, _, .cons (d := d) (ds := ds) h r, e => by
    unfold pys at e
    cases h1 : py d with
    | none => rw [h1] at e; cases e
    | some p =>
      cases h2 : pys ds with
      | none => rw [h1, h2] at e; cases e
      | some ps =>
        rw [h1, h2] at e
        cases e
        exact .cons (dv_dp s h h1) (dvs_dp s r h2)
end
theorem pv_dp {g : Gh Ω} {H : Hp} (s : Subs W g H) {v : V} {d : Dat Ω} {p : PyData} (h : PV K g H v d) (e : py d = some p) : Dp K H v p := by
  cases h with
  | dat h => exact dv_dp s h e
  | @own L vs ds h r =>
    unfold py at e
    cases h2 : pys ds with
    | none => rw [h2] at e; cases e
    | some ps =>
      rw [h2] at e
      cases e
      exact .lst (SqL.of h) (dvs_dp s r h2)
  | ownK h l r => cases e
theorem PV.int {g : Gh Ω} {H : Hp} {v : V} {i : Int} (h : PV K g H v (.int i)) : v = .int i := by
  cases h with
  | dat h => cases h; rfl
theorem PV.str {g : Gh Ω} {H : Hp} {v : V} {i : Str} (h : PV K g H v (.str i)) : v = .str i := by
  cases h with
  | dat h => cases h; rfl
theorem PV.bl {g : Gh Ω} {H : Hp} {v : V} {i : Bool} (h : PV K g H v (.bl i)) : v = .bl i := by
  cases h with
  | dat h => cases h; rfl
theorem PV.non {g : Gh Ω} {H : Hp} {v : V} (h : PV K g H v .non) : v = .non := by
  cases h with
  | dat h => cases h; rfl
theorem PV.lst {g : Gh Ω} {H : Hp} (s : Subs W g H) {v : V} {ds : List (Dat Ω)} (h : PV K g H v (.lst ds)) : ∃ a xs, v = .ref a ∧ H a = some (.lst xs) ∧ DVs K g xs ds := by
  cases h with
  | dat h =>
    cases h with
    | lst h r => exact ⟨_, _, rfl, Real.ho s h, r⟩
  | own h r => exact ⟨_, _, rfl, h, r⟩
theorem PV.tup {g : Gh Ω} {H : Hp} (s : Subs W g H) {v : V} {ds : List (Dat Ω)} (h : PV K g H v (.tup ds)) : ∃ a xs, v = .ref a ∧ SqT K H a xs ∧ DVs K g xs ds := by
  cases h with
  | dat h =>
    cases h with
    | tup h r => exact ⟨_, _, rfl, SqT.of (Real.ho s h), r⟩
theorem PV.dK {g : Gh Ω} {H : Hp} (s : Subs W g H) {v : V} {ks : List Key} {ds : List (Dat Ω)} (h : PV K g H v (.dK ks ds)) : ∃ a xs, v = .ref a ∧ Rd H a (.dK (ks.zip xs)) ∧ ks.length = xs.length ∧ DVs K g xs ds := by
  cases h with
  | dat h =>
    cases h with
    | dK h l r => exact ⟨_, _, rfl, Real.rd s h, l, r⟩
  | ownK h l r => exact ⟨_, _, rfl, .inl h, l, r⟩
/-- the value is not None -/
theorem PV.isN {g : Gh Ω} {H : Hp} {v : V} {d : Dat Ω} (h : PV K g H v d) : decide (v = .non) = (match d with | .non => true | _ => false) := by
  cases h with
  | dat h => cases h <;> rfl
  | own h r => rfl
  | ownK h l r => rfl
def r2v (r : R2) : List V → Hp → VK → Prop := fun vs H Q => match vs with
  | [x, y] => r x y H Q
  | _ => False
def r1v (r : V → Hp → VK → Prop) : List V → Hp → VK → Prop := fun vs H Q => match vs with
  | [x] => r x H Q
  | _ => False
theorem upO_mono {A : Opn Ω} {σ : L2.St} {H : Hp} {Q Q' : VK} (h : upO K W A σ H Q) (k : ∀ v H', Q v H' → Q' v H') : upO K W A σ H Q' := by
  cases A with
  | nm i =>
    obtain ⟨v, hv, q⟩ := h
    exact ⟨v, hv, k _ _ q⟩
  | ex T =>
    obtain ⟨F, g, γ, q, R, t, z⟩ := h
    exact ⟨F, g, γ, q, R, t, fun d γ' v H' g' a b c e => k _ _ (z d γ' v H' g' a b c e)⟩
section
variable {X : Cx} {a b c : Expr} {A B C : Opn Ω} {r : R2} {f : List (Dat Ω) → (Dat Ω → Prop) → Prop} {pos : Pos}
theorem pd_bin {op : Operator} (ho : OpR X (binaryOp op) r) (hd : OpD K W (r2v r) f) (ha : PE X a (upO K W A)) (hb : PE X b (upO K W B)) : PE X (.BinOp a op b pos) (up K W (tOps [A, B] f)) :=
  pe_ops (r := r2v r) (PEc (pe_op ho ha hb) fun _ _ _ h => h) hd
theorem pf_bin {op : Operator} (ho : OpR X (binaryOp op) r) (hd : OpF K W (r2v r) f) (ha : PE X a (upO K W A)) (hb : PE X b (upO K W B)) : PE X (.BinOp a op b pos) (upF K W (tOps [A, B] f)) :=
  pf_ops (r := r2v r) (PEc (pe_op ho ha hb) fun _ _ _ h => h) hd
theorem pd_un {op : UnaryOp} {r : V → Hp → VK → Prop} (ho : UnR X (unaryOp op) r) (hd : OpD K W (r1v r) f) (ha : PE X a (upO K W A)) : PE X (.UnaryOp op a pos) (up K W (tOps [A] f)) :=
  pe_ops (r := r1v r) (PEc (pe_un ho ha) fun _ _ _ h => h) hd
theorem pd_cmp {op : CmpOp} (ho : OpR X (compareOp op) r) (hd : OpD K W (r2v r) f) (ha : PE X a (upO K W A)) (hb : PE X b (upO K W B)) (hm : behindInMarks op b = false) : PE X (.Compare a [op] [b] pos) (up K W (tOps [A, B] f)) :=
  pe_ops (r := r2v r) (PEc (pe_cmpR ho ha hb hm) fun _ _ _ h => h) hd
/-- a value that is a bool, as a test -/
def tB' (T : DE Ω) : DT Ω := fun γ q => T γ fun d γ' => match d with
  | .bl b => q b γ'
  | _ => False
theorem ptest {e : Expr} {t : TE} {T : DE Ω} (h : PT X e (fun σ H Q => t σ H fun x H' => ∃ k, x = .bl k ∧ Q k H')) (k : ∀ σ H Q, up K W T σ H Q → t σ H Q) : PT X e (upT K W (tB' T)) := PTc h fun σ H Q ⟨F, g, γ, q, R, t, z⟩ => k _ _ _
  ⟨F, g, γ, _, R, t, fun d γ' v H' g' hq le R' dv => by
    cases dv with
    | bl b => exact ⟨b, rfl, z b γ' H' g' hq le R'⟩
    | _ => exact hq.elim⟩
theorem pt_v {e : Expr} {T : DE Ω} (h : PE X e (up K W T)) (he : ∀ whole, isTrue e X.env whole = (do let v ← whole; standAt e.pos; holding [v] (truthy v)) := by intro _; rfl) : PT X e (upT K W (tB' T)) := ptest (t := up K W T) (PTc (pt_val h he) fun _ _ _ h => h) fun _ _ _ h => h
theorem pt_c {op : CmpOp} {f : List (Dat Ω) → (Dat Ω → Prop) → Prop} (ho : OpR X (compareOp op) r) (hd : OpD K W (r2v r) f) (ha : PE X a (upO K W A)) (hb : PE X b (upO K W B)) (hm : behindInMarks op b = false) : PT X (.Compare a [op] [b] pos) (upT K W (tB' (tOps [A, B] f))) :=
  ptest (t := tOp r (upO K W A) (upO K W B)) (PTc (pt_cmpR ho ha hb hm) fun _ _ _ h => h) fun σ H Q ⟨F, g, γ, q, R, t, k⟩ =>
    (ev_sound [A, B] R t fun os γ' g' vs H' l le R' tm => by
      obtain ⟨ds, hf, pv⟩ := late_sound R' tm l
      exact hd g' H' vs ds _ Q R'.sub pv hf fun z w g2 H2 hz G dv => k z γ' w H2 g2 hz (le.tr G.le) (R'.grow G) dv : upA K W [A, B] σ H fun vs H' => r2v r vs H' Q)
def dAnd (t u : DT Ω) : DT Ω := fun γ q => t γ fun c γ1 => if c = true then u γ1 q else q false γ1
def dOr (t u : DT Ω) : DT Ω := fun γ q => t γ fun c γ1 => if c = true then q true γ1 else u γ1 q
def dNot (t : DT Ω) : DT Ω := fun γ q => t γ fun c γ1 => q (!c) γ1
variable {rest : List Expr} {t u : DT Ω} {T U : DE Ω}
theorem pwd_and1 (ha : PT X a (upT K W t)) : PW X (.BoolOp .And [a] pos) (upT K W t) := pw_and1 ha
theorem pwd_or1 (ha : PT X a (upT K W t)) : PW X (.BoolOp .Or [a] pos) (upT K W t) := pw_or1 ha
theorem pwd_and (ha : PT X a (upT K W t)) (hb : PW X (.BoolOp .And (b :: rest) pos) (upT K W u)) : PW X (.BoolOp .And (a :: b :: rest) pos) (upT K W (dAnd t u)) := PWc (pw_and ha hb) fun σ H Q ⟨F, g, γ, q, R, e, k⟩ =>
  ⟨F, g, γ, _, R, e, fun c γ' H' g' hq le R' => by
    cases c with
    | true => exact ⟨F, g', γ', _, R', hq, fun d γ2 H2 g2 hq2 le2 R2 => k d γ2 H2 g2 hq2 (le.tr le2) R2⟩
    | false => exact k _ γ' H' g' hq le R'⟩
theorem pwd_or (ha : PT X a (upT K W t)) (hb : PW X (.BoolOp .Or (b :: rest) pos) (upT K W u)) : PW X (.BoolOp .Or (a :: b :: rest) pos) (upT K W (dOr t u)) := PWc (pw_or ha hb) fun σ H Q ⟨F, g, γ, q, R, e, k⟩ =>
  ⟨F, g, γ, _, R, e, fun c γ' H' g' hq le R' => by
    cases c with
    | false => exact ⟨F, g', γ', _, R', hq, fun d γ2 H2 g2 hq2 le2 R2 => k d γ2 H2 g2 hq2 (le.tr le2) R2⟩
    | true => exact k _ γ' H' g' hq le R'⟩
theorem ptd_not (ha : PT X a (upT K W t)) : PT X (.UnaryOp .Not a pos) (upT K W (dNot t)) := PTc (pt_not ha) fun σ H Q ⟨F, g, γ, q, R, e, k⟩ => ⟨F, g, γ, _, R, e, fun c γ' H' g' hq le R' => k _ γ' H' g' hq le R'⟩
def dIf (t : DT Ω) (T U : DE Ω) : DE Ω := fun γ q => t γ fun c γ1 => if c = true then T γ1 q else U γ1 q
theorem pd_if (hc : PT X c (upT K W t)) (ha : PE X a (up K W T)) (hb : PE X b (up K W U)) : PE X (.IfExp c a b pos) (up K W (dIf t T U)) := PEc (pe_ifExp hc ha hb) fun σ H Q ⟨F, g, γ, q, R, e, k⟩ =>
  ⟨F, g, γ, _, R, e, fun c γ' H' g' hq le R' => by
    cases c with
    | true => exact ⟨F, g', γ', _, R', hq, fun d γ2 v H2 g2 hq2 le2 R2 dv => k d γ2 v H2 g2 hq2 (le.tr le2) R2 dv⟩
    | false => exact ⟨F, g', γ', _, R', hq, fun d γ2 v H2 g2 hq2 le2 R2 dv => k d γ2 v H2 g2 hq2 (le.tr le2) R2 dv⟩⟩
/-- values that are bools: and, or, not -/
def vAnd (T U : DE Ω) : DE Ω := fun γ q => T γ fun d γ1 => match d with
  | .bl true => U γ1 q
  | .bl false => q (.bl false) γ1
  | _ => False
def vOr (T U : DE Ω) : DE Ω := fun γ q => T γ fun d γ1 => match d with
  | .bl true => q (.bl true) γ1
  | .bl false => U γ1 q
  | _ => False
def vNot (T : DE Ω) : DE Ω := fun γ q => T γ fun d γ1 => match d with
  | .bl k => q (.bl (!k)) γ1
  | _ => False
theorem pd_one {op} (h : PE X a (up K W T)) : PE X (.BoolOp op [a] pos) (up K W T) := pe_one h
theorem pd_and (ha : PE X a (up K W T)) (hb : PE X (.BoolOp .And (b :: rest) pos) (up K W U)) : PE X (.BoolOp .And (a :: b :: rest) pos) (up K W (vAnd T U)) := PEc (pe_and ha hb) fun σ H Q ⟨F, g, γ, q, R, e, k⟩ =>
  ⟨F, g, γ, _, R, e, fun d γ' v H' g' hq le R' dv => by
    cases dv with
    | bl c =>
      refine ⟨c, rfl, ?_⟩
      cases c with
      | true => exact ⟨F, g', γ', _, R', hq, fun d γ2 v H2 g2 hq2 le2 R2 dv => k d γ2 v H2 g2 hq2 (le.tr le2) R2 dv⟩
      | false => exact k _ γ' _ H' g' hq le R' (.bl false)
    | _ => exact hq.elim⟩
theorem pd_or (ha : PE X a (up K W T)) (hb : PE X (.BoolOp .Or (b :: rest) pos) (up K W U)) : PE X (.BoolOp .Or (a :: b :: rest) pos) (up K W (vOr T U)) := PEc (pe_or ha hb) fun σ H Q ⟨F, g, γ, q, R, e, k⟩ =>
  ⟨F, g, γ, _, R, e, fun d γ' v H' g' hq le R' dv => by
    cases dv with
    | bl c =>
      refine ⟨c, rfl, ?_⟩
      cases c with
      | false => exact ⟨F, g', γ', _, R', hq, fun d γ2 v H2 g2 hq2 le2 R2 dv => k d γ2 v H2 g2 hq2 (le.tr le2) R2 dv⟩
      | true => exact k _ γ' _ H' g' hq le R' (.bl true)
    | _ => exact hq.elim⟩
theorem pd_not (ha : PE X a (up K W T)) : PE X (.UnaryOp .Not a pos) (up K W (vNot T)) := PEc (pe_not ha) fun σ H Q ⟨F, g, γ, q, R, e, k⟩ =>
  ⟨F, g, γ, _, R, e, fun d γ' v H' g' hq le R' dv => by
    cases dv with
    | bl c => exact ⟨c, rfl, k _ γ' _ H' g' hq le R' (.bl _)⟩
    | _ => exact hq.elim⟩
end
end
end DL
set_option Elab.async false
set_option linter.all false
set_option maxRecDepth 100000
set_option maxHeartbeats 4000000
namespace DL
open PySem PySem.Spec PyProof.Rows L2 Nv
section
variable {Ω : Type} {K : PySem.W.Frag} {W : Obs Ω}
abbrev FD (Ω : Type) := List (Dat Ω) → (Dat Ω → Prop) → Prop
theorem Grow.rf {g : Gh Ω} {H : Hp} (s : Subs W g H) : Grow W g H g H := .refl s
/-- an object that is new, as data -/
theorem fin_new {g : Gh Ω} {H : Hp} {k : Dat Ω → Prop} {Q : VK} {z : Dat Ω} {p : Addr} {o : HO} (s : Subs W g H) (q : ∀ z w g' H', k z → Grow W g H g' H' → DV K g' w z → Q w H') (hk : k z) (n : H p = none) (dv : ∀ g', Le g g' → g' p = some (.ho o) → DV K g' (.ref p) z) : Q (.ref p) (upd H p o) := by
  have G := Grow.dat (o := o) s n
  exact q z _ _ _ hk G (dv _ G.le gup_same)
/-! ### + - * // % ** -/
def fAdd : FD Ω
  | [.int i, .int j], k => k (.int (i + j))
  | [.str s, .str t], k => s.length + t.length ≤ sizeLine ∧ k (.str (s ++ t))
  | [.lst a, .lst b], k => a.length + b.length ≤ sizeLine ∧ k (.lst (a ++ b))
  | [.tup a, .tup b], k => a.length + b.length ≤ sizeLine ∧ k (.tup (a ++ b))
  | _, _ => False
def rAddA (K : PySem.W.Frag) : R2 := fun x y H Q => (∃ i j, x = .int i ∧ y = .int j ∧ Q (.int (i + j)) H) ∨ (∃ i j, x = .str i ∧ y = .str j ∧ i.length + j.length ≤ sizeLine ∧ Q (.str (i ++ j)) H) ∨ rCat x y H Q ∨ rCatW K x y H Q
theorem op_addA {X : Cx} : OpR X (binaryOp .Add) (rAddA X.K) := OpR.or op_add (OpR.or op_add_str (OpR.or op_cat op_catW))
theorem od_add : OpD K W (r2v (rAddA K)) fAdd := by
  intro g H vs ds k Q s p e q
  unfold fAdd at e
  split at e
  · rename_i i j
    cases p with | cons p1 p => cases p with | cons p2 p => cases p; cases p1.int; cases p2.int; exact .inl ⟨i, j, rfl, rfl, q _ _ _ _ e (.refl s) (.int _)⟩
  · rename_i a b
    cases p with | cons p1 p => cases p with | cons p2 p => cases p; cases p1.str; cases p2.str; exact .inr (.inl ⟨a, b, rfl, rfl, e.1, q _ _ _ _ e.2 (.refl s) (.str _)⟩)
  · rename_i a b
    cases p with
    | cons p1 p =>
      cases p with
      | cons p2 p =>
        cases p
        obtain ⟨L, xs, rfl, hL, r1⟩ := p1.lst s
        obtain ⟨M, ys, rfl, hM, r2⟩ := p2.lst s
        exact .inr (.inr (.inl ⟨L, M, xs, ys, rfl, rfl, hL, hM, by rw [r1.length, r2.length]; exact e.1, fun p n => fin_new s q e.2 n fun g' le h => .lst h ((r1.append r2).more le)⟩))
  · rename_i a b
    cases p with
    | cons p1 p =>
      cases p with
      | cons p2 p =>
        cases p
        cases p1 with
        | dat p1 =>
          cases p2 with
          | dat p2 =>
            obtain ⟨L, xs, e1, hL, r1⟩ := (PV.dat (H := H) p1).tup s
            obtain ⟨M, ys, e2, hM, r2⟩ := (PV.dat (H := H) p2).tup s
            subst e1 e2
            refine .inr (.inr (.inr ⟨L, M, xs, ys, rfl, rfl, hL, hM, by rw [r1.length, r2.length]; exact e.1, fun z => ?_, fun z z2 => ?_, fun z z2 p n => fin_new s q e.2 n fun g' le h => .tup h ((r1.append r2).more le)⟩))
            · subst z
              cases r1
              exact q _ _ _ _ e.2 (.refl s) p2
            · subst z2
              cases r2
              refine q _ _ _ _ e.2 (.refl s) ?_
              rw [List.append_nil]
              exact p1
  · exact e.elim
/-- a new list: + of lists -/
def fCat : FD Ω
  | [.lst a, .lst b], k => a.length + b.length ≤ sizeLine ∧ k (.lst (a ++ b))
  | _, _ => False
theorem of_cat : OpF K W (r2v rCat) fCat := by
  intro g H vs ds k Q s p e q
  unfold fCat at e
  split at e
  · rename_i a b
    cases p with
    | cons p1 p =>
      cases p with
      | cons p2 p =>
        cases p
        obtain ⟨L, xs, rfl, hL, r1⟩ := p1.lst s
        obtain ⟨M, ys, rfl, hM, r2⟩ := p2.lst s
        exact ⟨L, M, xs, ys, rfl, rfl, hL, hM, by rw [r1.length, r2.length]; exact e.1, fun p n => q _ _ _ _ _ e.2 (.refl s) n (r1.append r2)⟩
  · exact e.elim
/-- ints, under a condition -/
def fI2 (C : Int → Int → Prop) (h : Int → Int → Int) : FD Ω
  | [.int i, .int j], k => C i j ∧ k (.int (h i j))
  | _, _ => False
theorem od_I2 {C : Int → Int → Prop} {h : Int → Int → Int} : OpD K W (r2v (rI C fun i j => .int (h i j))) (fI2 C h) := by
  intro g H vs ds k Q s p e q
  unfold fI2 at e
  split at e
  · rename_i i j
    cases p with | cons p1 p => cases p with | cons p2 p => cases p; cases p1.int; cases p2.int; exact ⟨i, j, rfl, rfl, e.1, q _ _ _ _ e.2 (.refl s) (.int _)⟩
  · exact e.elim
def fI20 (h : Int → Int → Int) : FD Ω
  | [.int i, .int j], k => k (.int (h i j))
  | _, _ => False
theorem od_I20 {h : Int → Int → Int} : OpD K W (r2v (rI0 fun i j => .int (h i j))) (fI20 h) := by
  intro g H vs ds k Q s p e q
  unfold fI20 at e
  split at e
  · rename_i i j
    cases p with | cons p1 p => cases p with | cons p2 p => cases p; cases p1.int; cases p2.int; exact ⟨i, j, rfl, rfl, q _ _ _ _ e (.refl s) (.int _)⟩
  · exact e.elim
def fB20 (h : Int → Int → Bool) : FD Ω
  | [.int i, .int j], k => k (.bl (h i j))
  | _, _ => False
theorem od_B20 {h : Int → Int → Bool} : OpD K W (r2v (rI0 fun i j => .bl (h i j))) (fB20 h) := by
  intro g H vs ds k Q s p e q
  unfold fB20 at e
  split at e
  · rename_i i j
    cases p with | cons p1 p => cases p with | cons p2 p => cases p; cases p1.int; cases p2.int; exact ⟨i, j, rfl, rfl, q _ _ _ _ e (.refl s) (.bl _)⟩
  · exact e.elim
def fNeg : FD Ω
  | [.int i], k => k (.int (-i))
  | _, _ => False
theorem od_neg : OpD K W (r1v (rU fun i => .int (-i))) fNeg := by
  intro g H vs ds k Q s p e q
  unfold fNeg at e
  split at e
  · rename_i i
    cases p with | cons p1 p => cases p; cases p1.int; exact ⟨i, rfl, q _ _ _ _ e (.refl s) (.int _)⟩
  · exact e.elim
/-! ### == != in -/
def eqK (neg : Bool) (x y : Dat Ω) (k : Dat Ω → Prop) : Prop := ∃ a b, py x = some a ∧ py y = some b ∧ SeqAt.shaped a = true ∧ SeqAt.shaped b = true ∧ k (.bl (if neg then !PyData.eqv a b else PyData.eqv a b))
def fEq : FD Ω
  | [.int i, .int j], k => k (.bl (decide (i = j)))
  | [.str i, .str j], k => k (.bl (decide (i = j)))
  | [x, y], k => eqK false x y k
  | _, _ => False
def fNe : FD Ω
  | [.int i, .int j], k => k (.bl (!decide (i = j)))
  | [.str i, .str j], k => k (.bl (!decide (i = j)))
  | [x, y], k => eqK true x y k
  | _, _ => False
theorem dI {i j : Int} : decide (V.int i = V.int j) = decide (i = j) := by
  by_cases h : i = j
  · rw [decide_eq_true h, decide_eq_true (by rw [h])]
  · rw [decide_eq_false h, decide_eq_false fun z => h (V.int.inj z)]
theorem dS {i j : Str} : decide (V.str i = V.str j) = decide (i = j) := by
  by_cases h : i = j
  · rw [decide_eq_true h, decide_eq_true (by rw [h])]
  · rw [decide_eq_false h, decide_eq_false fun z => h (V.str.inj z)]
def rEqA (K : PySem.W.Frag) : R2 := fun x y H Q => rEq x y H Q ∨ rEqD K x y H Q
def rNeA (K : PySem.W.Frag) : R2 := fun x y H Q => rNe x y H Q ∨ rNeD K x y H Q
theorem op_eqA {X : Cx} (hu : X.A.units + 64 < cLine) : OpR X (compareOp .Eq) (rEqA X.K) := OpR.or op_eq (op_eqD hu)
theorem op_neA {X : Cx} (hu : X.A.units + 64 < cLine) : OpR X (compareOp .NotEq) (rNeA X.K) := OpR.or op_ne (op_neD hu)
theorem od_eq : OpD K W (r2v (rEqA K)) fEq := by
  intro g H vs ds k Q s p e q
  unfold fEq at e
  split at e
  · rename_i i j
    cases p with | cons p1 p => cases p with | cons p2 p => cases p; cases p1.int; cases p2.int; exact .inl ⟨rfl, by rw [dI]; exact q _ _ _ _ e (.refl s) (.bl _)⟩
  · rename_i i j
    cases p with | cons p1 p => cases p with | cons p2 p => cases p; cases p1.str; cases p2.str; exact .inl ⟨rfl, by rw [dS]; exact q _ _ _ _ e (.refl s) (.bl _)⟩
  · rename_i x y _ _
    obtain ⟨a, b, ea, eb, e⟩ := e
    cases p with | cons p1 p => cases p with | cons p2 p => cases p; exact .inr ⟨a, b, pv_dp s p1 ea, pv_dp s p2 eb, e.1, e.2.1, q _ _ _ _ e.2.2 (.refl s) (.bl _)⟩
  · exact e.elim
theorem od_ne : OpD K W (r2v (rNeA K)) fNe := by
  intro g H vs ds k Q s p e q
  unfold fNe at e
  split at e
  · rename_i i j
    cases p with | cons p1 p => cases p with | cons p2 p => cases p; cases p1.int; cases p2.int; exact .inl ⟨rfl, by rw [dI]; exact q _ _ _ _ e (.refl s) (.bl _)⟩
  · rename_i i j
    cases p with | cons p1 p => cases p with | cons p2 p => cases p; cases p1.str; cases p2.str; exact .inl ⟨rfl, by rw [dS]; exact q _ _ _ _ e (.refl s) (.bl _)⟩
  · rename_i x y _ _
    obtain ⟨a, b, ea, eb, e⟩ := e
    cases p with | cons p1 p => cases p with | cons p2 p => cases p; exact .inr ⟨a, b, pv_dp s p1 ea, pv_dp s p2 eb, e.1, e.2.1, q _ _ _ _ e.2.2 (.refl s) (.bl _)⟩
  · exact e.elim
/-- x in xs, xs a list of data -/
def fInL (neg : Bool) : FD Ω
  | [x, .lst ds], k => ∃ a bs, py x = some a ∧ pys ds = some bs ∧ SeqAt.shaped a = true ∧ SeqAt.shaped (.list bs) = true ∧ k (.bl (if neg then !bs.any (fun z => PyData.eqv z a) else bs.any (fun z => PyData.eqv z a)))
  | _, _ => False
theorem pv_dpl {g : Gh Ω} {H : Hp} (s : Subs W g H) {v : V} {ds : List (Dat Ω)} {ps : List PyData} (h : PV K g H v (.lst ds)) (e : pys ds = some ps) : Dp K H v (.list ps) := pv_dp s h (by unfold py; rw [e]; rfl)
theorem od_inL : OpD K W (r2v (rInD K)) (fInL false) := by
  intro g H vs ds k Q s p e q
  unfold fInL at e
  split at e
  · rename_i x ds
    obtain ⟨a, bs, ea, eb, e⟩ := e
    cases p with | cons p1 p => cases p with | cons p2 p => cases p; exact ⟨a, bs, pv_dp s p1 ea, pv_dpl s p2 eb, e.1, e.2.1, q _ _ _ _ e.2.2 (.refl s) (.bl _)⟩
  · exact e.elim
theorem od_ninL : OpD K W (r2v (rNotInD K)) (fInL true) := by
  intro g H vs ds k Q s p e q
  unfold fInL at e
  split at e
  · rename_i x ds
    obtain ⟨a, bs, ea, eb, e⟩ := e
    cases p with | cons p1 p => cases p with | cons p2 p => cases p; exact ⟨a, bs, pv_dp s p1 ea, pv_dpl s p2 eb, e.1, e.2.1, q _ _ _ _ e.2.2 (.refl s) (.bl _)⟩
  · exact e.elim
/-- is None, is not None -/
def isNon : Dat Ω → Bool
  | .non => true
  | _ => false
def fIsN (neg : Bool) : FD Ω
  | [x, .non], k => k (.bl (if neg then !isNon x else isNon x))
  | _, _ => False
theorem isN_eq {g : Gh Ω} {H : Hp} {v : V} {d : Dat Ω} (h : PV K g H v d) : decide (v = .non) = isNon d := by
  cases h with
  | dat h => cases h <;> rfl
  | own h r => rfl
  | ownK h l r => rfl
def rIsN : R2 := fun x y H Q => y = .non ∧ Q (.bl (decide (x = .non))) H
def rNotN : R2 := fun x y H Q => y = .non ∧ Q (.bl (!decide (x = .non))) H
theorem op_isN' {X : Cx} : OpR X (compareOp .Is) rIsN := op_isN
theorem op_notN' {X : Cx} : OpR X (compareOp .IsNot) rNotN := op_notN
theorem od_isN : OpD K W (r2v rIsN) (fIsN false) := by
  intro g H vs ds k Q s p e q
  unfold fIsN at e
  split at e
  · cases p with | cons p1 p => cases p with | cons p2 p => cases p; cases p2.non; exact ⟨rfl, by rw [isN_eq p1]; exact q _ _ _ _ e (.refl s) (.bl _)⟩
  · exact e.elim
theorem od_notN : OpD K W (r2v rNotN) (fIsN true) := by
  intro g H vs ds k Q s p e q
  unfold fIsN at e
  split at e
  · cases p with | cons p1 p => cases p with | cons p2 p => cases p; cases p2.non; exact ⟨rfl, by rw [isN_eq p1]; exact q _ _ _ _ e (.refl s) (.bl _)⟩
  · exact e.elim
/-! ### x[i] -/
def fIx : FD Ω
  | [.lst ds, .int i], k => ∃ d, atI ds i = some d ∧ k d
  | [.tup ds, .int i], k => ∃ d, atI ds i = some d ∧ k d
  | [.str z, .int i], k => z.length ≤ sizeLine ∧ ∃ c, atI z.cps.toList i = some c ∧ k (.str ⟨#[c]⟩)
  | _, _ => False
theorem dvs_atI {g : Gh Ω} {vs : List V} {ds : List (Dat Ω)} (r : DVs K g vs ds) {i : Int} {d : Dat Ω} (e : atI ds i = some d) : ∃ v, atI vs i = some v ∧ DV K g v d := by
  unfold atI at e ⊢
  rw [r.length]
  cases h : ixN ds.length i with
  | none => rw [h] at e; cases e
  | some j =>
    rw [h] at e
    exact r.at' j d e
def rIxA (K : PySem.W.Frag) : R2 := fun x y H Q => rIxL K x y H Q ∨ rIxT K x y H Q ∨ rIxS x y H Q
theorem ix_A {X : Cx} : IxR X (rIxA X.K) := IxR.or ix_list (IxR.or ix_tup ix_str)
theorem od_ix : OpD K W (r2v (rIxA K)) fIx := by
  intro g H vs ds k Q s p e q
  unfold fIx at e
  split at e
  · rename_i ds i
    obtain ⟨d, hd, e⟩ := e
    cases p with
    | cons p1 p =>
      cases p with
      | cons p2 p =>
        cases p
        cases p2.int
        obtain ⟨a, xs, rfl, ha, r⟩ := p1.lst s
        obtain ⟨v, hv, dv⟩ := dvs_atI r hd
        exact .inl ⟨a, xs, i, v, rfl, rfl, SqL.of ha, hv, q _ _ _ _ e (.refl s) dv⟩
  · rename_i ds i
    obtain ⟨d, hd, e⟩ := e
    cases p with
    | cons p1 p =>
      cases p with
      | cons p2 p =>
        cases p
        cases p2.int
        obtain ⟨a, xs, rfl, ha, r⟩ := p1.tup s
        obtain ⟨v, hv, dv⟩ := dvs_atI r hd
        exact .inr (.inl ⟨a, xs, i, v, rfl, rfl, ha, hv, q _ _ _ _ e (.refl s) dv⟩)
  · rename_i z i
    obtain ⟨e1, c, hc, e⟩ := e
    cases p with | cons p1 p => cases p with | cons p2 p => cases p; cases p1.str; cases p2.int; exact .inr (.inr ⟨z, i, c, rfl, rfl, e1, hc, q _ _ _ _ e (.refl s) (.str _)⟩)
  · exact e.elim
theorem pd_ix {X : Cx} {r : R2} {f : FD Ω} {a b : Expr} {A B : Opn Ω} {pos : Pos} (hr : IxR X r) (hd : OpD K W (r2v r) f) (ha : PE X a (upO K W A)) (hb : PE X b (upO K W B)) (hs : PlainIx b := by exact fun _ _ => rfl) : PE X (.Subscript a b pos) (up K W (tOps [A, B] f)) :=
  pe_ops (r := r2v r) (PEc (pe_ix hr ha hb hs) fun _ _ _ h => h) hd
/-! ### slices -/
def cutD (xs : List (Dat Ω)) (lo hi : Option Int) : List (Dat Ω) := (xs.drop (HT.sIx xs.length 0 lo)).take (HT.sIx xs.length xs.length hi - HT.sIx xs.length 0 lo)
theorem cut_dvs {g : Gh Ω} {vs : List V} {ds : List (Dat Ω)} (r : DVs K g vs ds) (lo hi : Option Int) : DVs K g (cutV vs lo hi) (cutD ds lo hi) := by
  unfold cutV cutD
  rw [r.length]
  exact (r.drop _).take _
def slK (x : Dat Ω) (lo hi : Option Int) (k : Dat Ω → Prop) : Prop := match x with
  | .lst ds => k (.lst (cutD ds lo hi))
  | .tup ds => k (.tup (cutD ds lo hi))
  | .str z => z.length ≤ sizeLine ∧ k (.str (cutS z lo hi))
  | _ => False
def rSlA (K : PySem.W.Frag) : V → Option Int → Option Int → Hp → VK → Prop := fun x lo hi H Q => rSlL K x lo hi H Q ∨ rSlW K x lo hi H Q ∨ rSlS x lo hi H Q
theorem sl_A {X : Cx} : SlR X (rSlA X.K) := SlR.or sl_list (SlR.or sl_tupW sl_str)
theorem sl_sound {g : Gh Ω} {H : Hp} {v : V} {x : Dat Ω} {lo hi : Option Int} {k : Dat Ω → Prop} {Q : VK} (s : Subs W g H) (p : PV K g H v x) (e : slK x lo hi k) (q : ∀ z w g' H', k z → Grow W g H g' H' → DV K g' w z → Q w H') : rSlA K v lo hi H Q := by
  unfold slK at e
  split at e
  · rename_i ds
    obtain ⟨a, xs, rfl, ha, r⟩ := p.lst s
    exact .inl ⟨a, xs, rfl, SqL.of ha, fun p n => fin_new s q e n fun g' le h => .lst h ((cut_dvs r lo hi).more le)⟩
  · rename_i ds
    cases p with
    | dat p1 =>
      obtain ⟨a, xs, e1, ha, r⟩ := (PV.dat (H := H) p1).tup s
      subst e1
      refine .inr (.inl ⟨a, xs, rfl, ha, fun hw => ?_, fun hw p n => fin_new s q e n fun g' le h => .tup h ((cut_dvs r lo hi).more le)⟩)
      refine q _ _ _ _ e (.refl s) ?_
      have : cutD ds lo hi = ds := by
        unfold cutD
        rw [← r.length, hw.1, hw.2, List.drop_zero, Nat.sub_zero, r.length, List.take_length]
      rw [this]
      exact p1
  · rename_i z
    cases p.str
    exact .inr (.inr ⟨z, rfl, e.1, q _ _ _ _ e.2 (.refl s) (.str _)⟩)
  · exact e.elim
def fSl2 : FD Ω
  | [x, .int i, .int j], k => slK x (some i) (some j) k
  | _, _ => False
def fSlL : FD Ω
  | [x, .int i], k => slK x (some i) none k
  | _, _ => False
def fSlH : FD Ω
  | [x, .int j], k => slK x none (some j) k
  | _, _ => False
def fSl0 : FD Ω
  | [x], k => slK x none none k
  | _, _ => False
section
variable {X : Cx} {a b c : Expr} {A B C : Opn Ω} {pos p2 : Pos}
theorem pd_slL (ha : PE X a (upO K W A)) (hb : PE X b (upO K W B)) (hK : X.K = K := by rfl) : PE X (.Subscript a (.Slice (some b) none none p2) pos) (up K W (tOps [A, B] fSlL)) := by
  subst hK
  refine pe_ops (r := fun vs H Q => ∃ x i, vs = [x, .int i] ∧ rSlA X.K x (some i) none H Q) (PEc (pe_slice sl_A ha (po_some hb) po_none) fun σ H Q h => ?_) ?_
  · exact upO_mono h fun x H1 h1 => upO_mono h1 fun y H2 ⟨x', i, e, r⟩ => by
      cases e
      exact ⟨i, rfl, r⟩
  · intro g H vs ds k Q s p e q
    unfold fSlL at e
    split at e
    · cases p with | cons p1 p => cases p with | cons p2 p => cases p; cases p2.int; exact ⟨_, _, rfl, sl_sound s p1 e q⟩
    · exact e.elim
theorem pd_slH (ha : PE X a (upO K W A)) (hb : PE X b (upO K W B)) (hK : X.K = K := by rfl) : PE X (.Subscript a (.Slice none (some b) none p2) pos) (up K W (tOps [A, B] fSlH)) := by
  subst hK
  refine pe_ops (r := fun vs H Q => ∃ x i, vs = [x, .int i] ∧ rSlA X.K x none (some i) H Q) (PEc (pe_slice sl_A ha po_none (po_some hb)) fun σ H Q h => ?_) ?_
  · exact upO_mono h fun x H1 h1 => upO_mono h1 fun y H2 ⟨x', i, e, r⟩ => by
      cases e
      exact ⟨i, rfl, r⟩
  · intro g H vs ds k Q s p e q
    unfold fSlH at e
    split at e
    · cases p with | cons p1 p => cases p with | cons p2 p => cases p; cases p2.int; exact ⟨_, _, rfl, sl_sound s p1 e q⟩
    · exact e.elim
end
end
end DL
set_option Elab.async false
set_option linter.all false
set_option maxRecDepth 100000
set_option maxHeartbeats 4000000
namespace DL
open PySem PySem.Spec PyProof.Rows L2 Nv
section
variable {Ω : Type} {K : PySem.W.Frag} {W : Obs Ω}
/-! ### what is kept: items of displays, arguments -/
def upK (K : PySem.W.Frag) (W : Obs Ω) : List (DE Ω) → TA
  | [] => tNil
  | T :: Ts => tCons (up K W T) (upK K W Ts)
def evK : List (DE Ω) → Gam Ω → (List (Dat Ω) → Gam Ω → Prop) → Prop
  | [], γ, r => r [] γ
  | T :: Ts, γ, r => T γ fun d γ1 => evK Ts γ1 fun ds γ' => r (d :: ds) γ'
def tKs (Ts : List (DE Ω)) (f : FD Ω) : DE Ω := fun γ q => evK Ts γ fun ds γ' => f ds fun z => q z γ'
theorem evK_sound : ∀ (Ts : List (DE Ω)) {F : Hp} {g : Gh Ω} {γ : Gam Ω} {σ : L2.St} {H : Hp} {r : List (Dat Ω) → Gam Ω → Prop} {Q : List V → Hp → Prop}, Rep K W F g γ σ H → evK Ts γ r →
    (∀ ds γ' g' vs H', r ds γ' → Le g g' → Rep K W F g' γ' σ H' → DVs K g' vs ds → Q vs H') → upK K W Ts σ H Q
  | [], F, g, γ, σ, H, r, Q, R, e, k => k [] γ g [] H e (.refl g) R .nil
  | T :: Ts, F, g, γ, σ, H, r, Q, R, e, k => ⟨F, g, γ, _, R, e, fun d γ' v H' g' q le R' dv => evK_sound Ts R' q fun ds γ2 g2 vs H2 q2 le2 R2 t => k _ _ _ _ _ q2 (le.tr le2) R2 (.cons (dv.more le2) t)⟩
def OpK (K : PySem.W.Frag) (W : Obs Ω) (r : List V → Hp → VK → Prop) (f : FD Ω) : Prop :=
  ∀ g H vs ds k Q, Subs W g H → DVs K g vs ds → f ds k → (∀ z w g' H', k z → Grow W g H g' H' → DV K g' w z → Q w H') → r vs H Q
def OpKF (K : PySem.W.Frag) (W : Obs Ω) (r : List V → Hp → VK → Prop) (f : FD Ω) : Prop :=
  ∀ g H vs ds k Q, Subs W g H → DVs K g vs ds → f ds k → (∀ zs ws L g1 H1, k (.lst zs) → Grow W g H g1 H1 → H1 L = none → DVs K g1 ws zs → Q (.ref L) (upd H1 L (.lst ws))) → r vs H Q
section
variable {X : Cx} {e : Expr} {es : List Expr} {T : DE Ω} {Ts : List (DE Ω)} {r : List V → Hp → VK → Prop} {f : FD Ω} {pos : Pos} {k1 : Nat}
theorem pk0 : PA X [] (upK K W []) := pa_nil
theorem pk1 (h : PE X e (up K W T)) (t : PA X es (upK K W Ts)) (hs : starEach (e :: es) X.env = (false, eval e X.env) :: starEach es X.env := by rfl) : PA X (e :: es) (upK K W (T :: Ts)) := pa_cons h t hs
theorem pe_ks (hp : PE X e (fun σ H Q => upK K W Ts σ H fun vs H' => r vs H' Q)) (ho : OpK K W r f) : PE X e (up K W (tKs Ts f)) := PEc hp fun σ H Q ⟨F, g, γ, q, R, t, k⟩ =>
  evK_sound Ts R t fun ds γ' g' vs H' hf le R' dvs => ho g' H' vs ds _ Q R'.sub dvs hf fun z w g2 H2 hz G dv => k z γ' w H2 g2 hz (le.tr G.le) (R'.grow G) dv
theorem pf_ks (hp : PE X e (fun σ H Q => upK K W Ts σ H fun vs H' => r vs H' Q)) (ho : OpKF K W r f) : PE X e (upF K W (tKs Ts f)) := PEc hp fun σ H Q ⟨F, g, γ, q, R, t, k⟩ =>
  evK_sound Ts R t fun ds γ' g' vs H' hf le R' dvs => ho g' H' vs ds _ Q R'.sub dvs hf fun zs ws L g2 H2 hz G n d => k zs γ' ws L H2 g2 hz (le.tr G.le) (R'.grow G) n d
/-! ### displays -/
def fLst : FD Ω := fun ds k => ds.length ≤ sizeLine ∧ k (.lst ds)
def fTup : FD Ω := fun ds k => ds.length ≤ sizeLine ∧ k (.tup ds)
def rLst : List V → Hp → VK → Prop := fun xs H Q => xs.length ≤ sizeLine ∧ ∀ p, H p = none → Q (.ref p) (upd H p (.lst xs))
def rTup : List V → Hp → VK → Prop := fun xs H Q => xs.length ≤ sizeLine ∧ ∀ p, H p = none → Q (.ref p) (upd H p (.tup xs))
theorem pf_lst (h : PA X es (upK K W Ts)) : PE X (.List es pos) (upF K W (tKs Ts fLst)) :=
  pf_ks (r := rLst) (PEc (pe_lst h) fun _ _ _ h => h) fun g H vs ds k Q s d e q => ⟨by rw [d.length]; exact e.1, fun p n => q ds vs p g H e.2 (.refl s) n d⟩
theorem pd_lst (h : PA X es (upK K W Ts)) : PE X (.List es pos) (up K W (tKs Ts fLst)) := pf_pe (pf_lst h)
theorem pd_tup (h : PA X es (upK K W Ts)) : PE X (.Tuple es k1 pos) (up K W (tKs Ts fTup)) :=
  pe_ks (r := rTup) (PEc (pe_tup h) fun _ _ _ h => h) fun g H vs ds k Q s d e q => ⟨by rw [d.length]; exact e.1, fun p n => fin_new s q e.2 n fun g' le h => .tup h (d.more le)⟩
end
/-! ### statements -/
structure EndsD (Ω : Type) where
  nx : Gam Ω → Prop
  rt : Dat Ω → Gam Ω → Prop
  bk : Gam Ω → Prop := fun _ => False
  ct : Gam Ω → Prop := fun _ => False
abbrev DS (Ω : Type) := EndsD Ω → Gam Ω → Prop
structure Fits (K : PySem.W.Frag) (W : Obs Ω) (F : Hp) (g : Gh Ω) (E : EndsD Ω) (D : Ends) : Prop where
  nx : ∀ γ' σ' H' g', E.nx γ' → Le g g' → Rep K W F g' γ' σ' H' → D.nx σ' H'
  rt : ∀ d γ' v σ' H' g', E.rt d γ' → Le g g' → Rep K W F g' γ' σ' H' → DV K g' v d → D.rt v H'
  bk : ∀ γ' σ' H' g', E.bk γ' → Le g g' → Rep K W F g' γ' σ' H' → D.bk σ' H'
  ct : ∀ γ' σ' H' g', E.ct γ' → Le g g' → Rep K W F g' γ' σ' H' → D.ct σ' H'
theorem Fits.mono {F : Hp} {g g' : Gh Ω} {E : EndsD Ω} {D : Ends} (f : Fits K W F g E D) (le : Le g g') : Fits K W F g' E D :=
  ⟨fun a b c d e l r => f.nx a b c d e (le.tr l) r, fun a b c d e h i l r => f.rt a b c d e h i (le.tr l) r, fun a b c d e l r => f.bk a b c d e (le.tr l) r, fun a b c d e l r => f.ct a b c d e (le.tr l) r⟩
def upS (K : PySem.W.Frag) (W : Obs Ω) (T : DS Ω) : TS := fun D σ H => ∃ F g γ E, Rep K W F g γ σ H ∧ T E γ ∧ Fits K W F g E D
section
variable {X : Cx} {st : Stmt} {rest : List Stmt} {S U : DS Ω} {e : Expr} {T : DE Ω} {t : DT Ω} {pos : Pos}
def dNext : DS Ω := fun D γ => D.nx γ
def dSeq (S U : DS Ω) : DS Ω := fun D γ => S { D with nx := U D } γ
theorem sd0 : PSs X [] (upS K W dNext) := PSsc pss_nil fun D σ H ⟨F, g, γ, E, R, t, f⟩ => f.nx γ σ H g t (.refl g) R
theorem sdc (h1 : PS X st (upS K W S)) (h2 : PSs X rest (upS K W U)) : PSs X (st :: rest) (upS K W (dSeq S U)) := PSsc (pss_cons h1 h2) fun D σ H ⟨F, g, γ, E, R, t, f⟩ =>
  ⟨F, g, γ, _, R, t, fun γ' σ' H' g' hn le R' => ⟨F, g', γ', E, R', hn, f.mono le⟩, f.rt, f.bk, f.ct⟩
theorem sd1 (h1 : PS X st (upS K W S)) : PSs X [st] (upS K W S) := pss_one h1
theorem ds_pass : PS X (.Pass pos) (upS K W dNext) := PSc ps_pass fun D σ H ⟨F, g, γ, E, R, t, f⟩ => f.nx γ σ H g t (.refl g) R
theorem ds_break : PS X (.Break pos) (upS K W fun D γ => D.bk γ) := PSc ps_break fun D σ H ⟨F, g, γ, E, R, t, f⟩ => f.bk γ σ H g t (.refl g) R
theorem ds_cont : PS X (.Continue pos) (upS K W fun D γ => D.ct γ) := PSc ps_continue fun D σ H ⟨F, g, γ, E, R, t, f⟩ => f.ct γ σ H g t (.refl g) R
def dRet (T : DE Ω) : DS Ω := fun D γ => T γ D.rt
theorem ds_ret (h : PE X e (up K W T)) : PS X (.Return (some e) pos) (upS K W (dRet T)) := PSc (ps_ret h) fun D σ H ⟨F, g, γ, E, R, t, f⟩ =>
  ⟨F, g, γ, E.rt, R, t, fun d γ' v H' g' hq le R' dv => f.rt d γ' v σ H' g' hq le R' dv⟩
theorem ds_retN : PS X (.Return none pos) (upS K W fun D γ => D.rt .non γ) := PSc ps_retN fun D σ H ⟨F, g, γ, E, R, t, f⟩ => f.rt .non γ .non σ H g t (.refl g) R .non
def dDrop (T : DE Ω) : DS Ω := fun D γ => T γ fun _ γ' => D.nx γ'
theorem ds_expr (h : PE X e (up K W T)) (hs : swapsWith e none pos.line X.env = pure false := by rfl) : PS X (.Expr e pos) (upS K W (dDrop T)) := PSc (ps_expr h hs) fun D σ H ⟨F, g, γ, E, R, t, f⟩ =>
  ⟨F, g, γ, _, R, t, fun d γ' v H' g' hq le R' dv => f.nx γ' σ H' g' hq le R'⟩
def dIfS (t : DT Ω) (S U : DS Ω) : DS Ω := fun D γ => t γ fun c γ1 => if c = true then S D γ1 else U D γ1
theorem ds_if {c : Expr} {a b : List Stmt} (hc : PT X c (upT K W t)) (ha : PSs X a (upS K W S)) (hb : PSs X b (upS K W U)) : PS X (.If c a b pos) (upS K W (dIfS t S U)) := PSc (ps_if hc ha hb) fun D σ H ⟨F, g, γ, E, R, t, f⟩ =>
  ⟨F, g, γ, _, R, t, fun c γ' H' g' hq le R' => by
    cases c with
    | true => exact ⟨F, g', γ', E, R', hq, f.mono le⟩
    | false => exact ⟨F, g', γ', E, R', hq, f.mono le⟩⟩
/-! targets -/
abbrev DG (Ω : Type) := Dat Ω → Gam Ω → (Gam Ω → Prop) → Prop
/-- σ' is σ but for slots of ix -/
def But (ix : List Nat) (σ σ' : L2.St) : Prop := σ'.length = σ.length ∧ ∀ i, i ∉ ix → σ'[i]? = σ[i]?
theorem But.refl {ix : List Nat} {σ : L2.St} : But ix σ σ := ⟨rfl, fun _ _ => rfl⟩
theorem But.tr {a b : List Nat} {σ σ1 σ2 : L2.St} (h : But a σ σ1) (k : But b σ1 σ2) : But (a ++ b) σ σ2 := ⟨k.1.trans h.1, fun i n => (k.2 i fun z => n (List.mem_append_right _ z)).trans (h.2 i fun z => n (List.mem_append_left _ z))⟩
def upG (K : PySem.W.Frag) (W : Obs Ω) (ix : List Nat) (G : DG Ω) : TG := fun v σ H Q => ∃ F g γ d q, Rep K W F g γ σ H ∧ DV K g v d ∧ G d γ q ∧ ∀ γ' σ' H' g', q γ' → But ix σ σ' → Le g g' → Rep K W F g' γ' σ' H' → Q σ' H'
abbrev DGs (Ω : Type) := List (Dat Ω) → Gam Ω → (Gam Ω → Prop) → Prop
def upGs (K : PySem.W.Frag) (W : Obs Ω) (ix : List Nat) (G : DGs Ω) : TGs := fun vs σ H Q => ∃ F g γ ds q, Rep K W F g γ σ H ∧ DVs K g vs ds ∧ G ds γ q ∧ ∀ γ' σ' H' g', q γ' → But ix σ σ' → Le g g' → Rep K W F g' γ' σ' H' → Q σ' H'
theorem PGc {X : Cx} {e : Expr} {t t' : TG} (h : PG X e t) (k : ∀ v σ H Q, t' v σ H Q → t v σ H Q) : PG X e t' := ⟨fun pins s σ H v u Q I r q => h.run pins s σ H v u Q I r (k v σ H Q q)⟩
theorem PGsc {X : Cx} {e : List Expr} {t t' : TGs} (h : PGs X e t) (k : ∀ v σ H Q, t' v σ H Q → t v σ H Q) : PGs X e t' := ⟨fun pins s σ H v u Q I r q => h.run pins s σ H v u Q I r (k v σ H Q q)⟩
def gN (i : Nat) : DG Ω := fun d γ q => q (γ.set i (some (.dat d)))
theorem gd_name {tg : Expr} {i : Nat} (h : PG X tg (gName i)) : PG X tg (upG K W [i] (gN i)) := PGc h fun v σ H Q ⟨F, g, γ, d, q, R, dv, t, k⟩ => k _ _ H g t ⟨List.length_set, fun j n => List.getElem?_set_ne (fun z => n (by rw [z]; exact List.mem_cons_self))⟩ (.refl g) (R.setD i dv)
def gs0 : DGs Ω := fun ds γ q => match ds with
  | [] => q γ
  | _ => False
def gsC (G : DG Ω) (Gs : DGs Ω) : DGs Ω := fun ds γ q => match ds with
  | d :: r => G d γ fun γ' => Gs r γ' q
  | [] => False
theorem gsd0 : PGs X [] (upGs K W [] gs0) := PGsc pgs_nil fun v σ H Q ⟨F, g, γ, d, q, R, dv, t, k⟩ => by
  cases dv with
  | nil => exact ⟨rfl, k _ _ H g t .refl (.refl g) R⟩
  | cons h r => exact t.elim
theorem gsd1 {ix jx : List Nat} {G : DG Ω} {Gs : DGs Ω} {es : List Expr} (h1 : PG X e (upG K W ix G)) (h2 : PGs X es (upGs K W jx Gs)) (hs : (assignEach (e :: es) X.env).map (·.2) = assign e X.env :: (assignEach es X.env).map (·.2) := by rfl) : PGs X (e :: es) (upGs K W (ix ++ jx) (gsC G Gs)) :=
  PGsc (pgs_cons h1 h2 hs) fun v σ H Q ⟨F, g, γ, d, q, R, dv, t, k⟩ => by
    cases dv with
    | nil => exact t.elim
    | cons h r => exact ⟨_, _, rfl, F, g, γ, _, _, R, h, t, fun γ' σ' H' g' hq bu le R' => ⟨F, g', γ', _, q, R', r.more le, hq, fun γ2 σ2 H2 g2 a bu2 b c => k γ2 σ2 H2 g2 a (bu.tr bu2) (le.tr b) c⟩⟩
def gT (Gs : DGs Ω) : DG Ω := fun d γ q => match d with
  | .tup ds => Gs ds γ q
  | _ => False
theorem gd_tup {ix : List Nat} {es : List Expr} {n : Nat} {Gs : DGs Ω} {k1 : Nat} (h : PG X (.Tuple es k1 pos) (gTup X.K n (upGs K W ix Gs))) (hl : ∀ ds γ q, Gs ds γ q → ds.length = n) (hK : X.K = K := by rfl) : PG X (.Tuple es k1 pos) (upG K W ix (gT Gs)) := by
  subst hK
  refine PGc h fun v σ H Q ⟨F, g, γ, d, q, R, dv, t, k⟩ => ?_
  unfold gT at t
  split at t
  · rename_i ds
    obtain ⟨a, xs, e1, hq, r⟩ := (PV.dat (H := H) dv).tup R.sub
    exact ⟨a, xs, e1, hq, by rw [r.length]; exact hl _ _ _ t, F, g, γ, ds, q, R, r, t, k⟩
  · exact t.elim
theorem gsLen0 : ∀ (ds : List (Dat Ω)) γ q, gs0 ds γ q → ds.length = 0 := fun ds γ q h => by
  cases ds with
  | nil => rfl
  | cons _ _ => exact h.elim
theorem gsLenC {G : DG Ω} {Gs : DGs Ω} {n : Nat} (mono : ∀ d γ q, G d γ q → ∃ γ', q γ') (h : ∀ ds γ q, Gs ds γ q → ds.length = n) : ∀ (ds : List (Dat Ω)) γ q, gsC G Gs ds γ q → ds.length = n + 1 := fun ds γ q e => by
  cases ds with
  | nil => exact e.elim
  | cons d r =>
    obtain ⟨γ', z⟩ := mono d γ _ e
    rw [List.length_cons, h _ _ _ z]
theorem gN_mono {i : Nat} : ∀ (d : Dat Ω) γ q, gN i d γ q → ∃ γ', q γ' := fun d γ q h => ⟨_, h⟩
theorem gT_mono {Gs : DGs Ω} (h : ∀ ds γ q, Gs ds γ q → ∃ γ', q γ') : ∀ (d : Dat Ω) γ q, gT Gs d γ q → ∃ γ', q γ' := fun d γ q e => by
  unfold gT at e
  split at e
  · exact h _ _ _ e
  · exact e.elim
theorem gs0_mono : ∀ (ds : List (Dat Ω)) γ q, gs0 ds γ q → ∃ γ', q γ' := fun ds γ q h => by
  cases ds with
  | nil => exact ⟨_, h⟩
  | cons _ _ => exact h.elim
theorem gsC_mono {G : DG Ω} {Gs : DGs Ω} (m : ∀ d γ q, G d γ q → ∃ γ', q γ') (h : ∀ ds γ q, Gs ds γ q → ∃ γ', q γ') : ∀ (ds : List (Dat Ω)) γ q, gsC G Gs ds γ q → ∃ γ', q γ' := fun ds γ q e => by
  cases ds with
  | nil => exact e.elim
  | cons d r =>
    obtain ⟨γ', z⟩ := m d γ _ e
    exact h _ _ _ z
/-! stores -/
def dAsg (T : DE Ω) (G : DG Ω) : DS Ω := fun D γ => T γ fun d γ' => G d γ' D.nx
theorem ds_asg {ix : List Nat} {G : DG Ω} (h : PS X st (tAsg (up K W T) (upG K W ix G))) : PS X st (upS K W (dAsg T G)) := PSc h fun D σ H ⟨F, g, γ, E, R, t, f⟩ =>
  ⟨F, g, γ, _, R, t, fun d γ' v H' g' hq le R' dv => ⟨F, g', γ', d, _, R', dv, hq, fun γ2 σ2 H2 g2 a _ b c => f.nx γ2 σ2 H2 g2 a (le.tr b) c⟩⟩
def dSet (i : Nat) (T : DE Ω) : DS Ω := fun D γ => T γ fun d γ' => D.nx (γ'.set i (some (.dat d)))
theorem ds_set {i : Nat} (h : PS X st (tAsg (up K W T) (gName i))) : PS X st (upS K W (dSet i T)) := PSc h fun D σ H ⟨F, g, γ, E, R, t, f⟩ =>
  ⟨F, g, γ, _, R, t, fun d γ' v H' g' hq le R' dv => f.nx _ _ H' g' hq le (R'.setD i dv)⟩
/-- the new list is the name's own -/
def dSetF (i : Nat) (T : DE Ω) : DS Ω := fun D γ => T γ fun d γ' => match d with
  | .lst zs => D.nx (γ'.set i (some (.own zs)))
  | _ => False
theorem Rep.setNew {F : Hp} {g : Gh Ω} {γ : Gam Ω} {σ : L2.St} {H : Hp} (R : Rep K W F g γ σ H) (i : Nat) {L : Addr} {ws : List V} {zs : List (Dat Ω)} (n : H L = none) (r : DVs K g ws zs) : Rep K W F g (γ.set i (some (.own zs))) (σ.set i (some (.ref L))) (upd H L (.lst ws)) := by
  have G : Grow W g H g (upd H L (.lst ws)) := Grow.own R.sub n
  have gn : g L = none := gnone R.sub n
  refine (R.grow G).set i (s := .own zs) ⟨L, ws, rfl, gn, upd_same, r⟩ fun _ L' e => ?_
  cases e
  refine ⟨?_, fun j t e ot ej => ?_⟩
  · cases e : F L with
    | none => rfl
    | some u =>
      have := (R.fr L u e).1
      rw [n] at this
      cases this
  · obtain ⟨v, hv, ok⟩ := R.sl j t e
    rw [ej] at hv
    cases hv
    cases t with
    | dat d => cases ot
    | raw w => cases ot
    | own ds =>
      obtain ⟨L2, vs, e2, _, h2, _⟩ := ok
      cases e2
      rw [n] at h2
      cases h2
    | ownK ks ds =>
      obtain ⟨L2, vs, e2, _, h2, _⟩ := ok
      cases e2
      rw [n] at h2
      cases h2
    | box p m =>
      obtain ⟨e2, _, b0, b1, b2, h2, _⟩ := ok
      cases e2
      rw [n] at h2
      cases h2
theorem ds_setF {i : Nat} (h : PS X st (tAsg (upF K W T) (gName i))) : PS X st (upS K W (dSetF i T)) := PSc h fun D σ H ⟨F, g, γ, E, R, t, f⟩ =>
  ⟨F, g, γ, _, R, t, fun zs γ' ws L H1 g1 hq le R1 n r => f.nx _ _ _ g1 hq le (R1.setNew i n r)⟩
/-- a, b = x, y -/
def dPar (i j : Nat) (T U : DE Ω) : DS Ω := fun D γ => T γ fun d γ1 => U γ1 fun e γ2 => D.nx ((γ2.set i (some (.dat d))).set j (some (.dat e)))
theorem ds_par {i j : Nat} {U : DE Ω} (h : PS X st (tPar i j (upK K W [T, U]))) : PS X st (upS K W (dPar i j T U)) := PSc h fun D σ H ⟨F, g, γ, E, R, t, f⟩ =>
  evK_sound [T, U] R (r := fun ds γ' => match ds with
    | [d, e] => E.nx ((γ'.set i (some (.dat d))).set j (some (.dat e)))
    | _ => False) t fun ds γ' g' vs H' hq le R' dvs => by
    cases dvs with
    | nil => exact hq.elim
    | cons h1 r1 =>
      cases r1 with
      | nil => exact hq.elim
      | cons h2 r2 =>
        cases r2 with
        | nil => exact ⟨_, _, rfl, f.nx _ _ H' g' hq le ((R'.setD i h1).setD j h2)⟩
        | cons _ _ => exact hq.elim
end
end
end DL
set_option Elab.async false
set_option linter.all false
set_option maxRecDepth 100000
set_option maxHeartbeats 4000000
namespace DL
open PySem PySem.Spec PyProof.Rows L2 Nv
section
variable {Ω : Type} {K : PySem.W.Frag} {W : Obs Ω}
/-! ### owned things that change -/
theorem Rep.mut {F : Hp} {g : Gh Ω} {γ : Gam Ω} {σ : L2.St} {H : Hp} (R : Rep K W F g γ σ H) {i : Nat} {s s' : Sl Ω} {L : Addr} {o : HO} (e : γ[i]? = some (some s)) (os : s.owned = true) (ev : σ[i]? = some (some (.ref L))) (gn : g L = none)
    (ok : SlOk K g (upd H L o) (.ref L) s') : Rep K W F g (γ.set i (some s')) σ (upd H L o) := by
  have hl : i < γ.length := (List.getElem?_eq_some_iff.mp e).1
  have kp : ∀ a, a ≠ L → upd H L o a = H a := fun a h => upd_ne h
  refine ⟨by rw [List.length_set]; exact R.len, fun j t ej => ?_, fun a b s1 t L' ne ha hb o1 ot va vb => ?_, fun a u ea => ?_, fun a u ea => ?_, fun j t L' ej ot vj => ?_⟩
  · by_cases hj : i = j
    · subst hj
      rw [List.getElem?_set_self hl] at ej
      cases ej
      exact ⟨_, ev, ok⟩
    · rw [List.getElem?_set_ne hj] at ej
      obtain ⟨u, h1, h2⟩ := R.sl j t ej
      refine ⟨u, h1, ?_⟩
      cases t with
      | dat d => exact h2
      | own es =>
        obtain ⟨L2, ws, rfl, n2, e2, r2⟩ := h2
        have ne : L2 ≠ L := fun z => R.apart i j _ _ L hj e ej os rfl ev (by rw [h1, z])
        exact ⟨L2, ws, rfl, n2, by rw [kp _ ne]; exact e2, r2⟩
      | ownK ks es =>
        obtain ⟨L2, ws, rfl, n2, e2, l2, r2⟩ := h2
        have ne : L2 ≠ L := fun z => R.apart i j _ _ L hj e ej os rfl ev (by rw [h1, z])
        exact ⟨L2, ws, rfl, n2, by rw [kp _ ne]; exact e2, l2, r2⟩
      | box p m =>
        obtain ⟨rfl, n2, b0, b1, b2, hb, q⟩ := h2
        have ne : p ≠ L := fun z => R.apart i j _ _ L hj e ej os rfl ev (by rw [h1, z])
        exact ⟨rfl, n2, b0, b1, b2, by rw [kp _ ne]; exact hb, q⟩
      | raw w => exact h2
  · have fa : ∃ s0, γ[a]? = some (some s0) ∧ s0.owned = true := by
      by_cases z : i = a
      · subst z
        exact ⟨s, e, os⟩
      · rw [List.getElem?_set_ne z] at ha
        exact ⟨_, ha, o1⟩
    have fb : ∃ s0, γ[b]? = some (some s0) ∧ s0.owned = true := by
      by_cases z : i = b
      · subst z
        exact ⟨s, e, os⟩
      · rw [List.getElem?_set_ne z] at hb
        exact ⟨_, hb, ot⟩
    obtain ⟨sa, ea, oa⟩ := fa
    obtain ⟨sb, eb, ob⟩ := fb
    exact R.apart a b sa sb L' ne ea eb oa ob va vb
  · have ne : a ≠ L := fun z => by rw [z, gn] at ea; cases ea
    exact (R.sub a u ea).mono (.refl g) fun o' q => by rw [kp _ ne]; exact q
  · obtain ⟨h1, h2⟩ := R.fr a u ea
    have ne : a ≠ L := fun z => by
      have := R.fo i _ L e os ev
      rw [z, this] at ea
      cases ea
    exact ⟨by rw [kp _ ne]; exact h1, h2⟩
  · by_cases z : i = j
    · subst z
      exact R.fo i s L' e os vj
    · rw [List.getElem?_set_ne z] at ej
      exact R.fo j t L' ej ot vj
section
variable {X : Cx} {st : Stmt} {e o : Expr} {T : DE Ω} {pos apos cpos : Pos}
/-- x.append(e) -/
def dApp (i : Nat) (T : DE Ω) : DS Ω := fun D γ => match γ[i]? with
  | some (some (.own _)) => T γ fun d γ' => (match γ'[i]? with
    | some (some (.own ds)) => ds.length < sizeLine ∧ D.nx (γ'.set i (some (.own (ds ++ [d]))))
    | _ => False)
  | _ => False
theorem ds_app {i : Nat} (h : PS X st (tDrop (tBM X.K "list" rAppend (tVar i) (upK K W [T])))) : PS X st (upS K W (dApp i T)) := PSc h fun D σ H ⟨F, g, γ, E, R, t, f⟩ => by
  unfold dApp at t
  split at t
  · rename_i d0 h0
    obtain ⟨v, hv, L, vs, rfl, gn, hL, r⟩ := R.sl i _ h0
    refine ⟨_, hv, .inl ⟨rfl, _, SqL.of hL⟩, F, g, γ, _, R, t, fun d γ' y H' g' hq le R' dv => ?_⟩
    split at hq
    · rename_i ds h1
      obtain ⟨v', hv', L', ws, rfl, gn', hL', r'⟩ := R'.sl i _ h1
      rw [hv] at hv'
      cases hv'
      refine ⟨L, ws, y, rfl, rfl, hL', by rw [r'.length]; exact hq.1, ?_⟩
      exact f.nx _ _ _ g' hq.2 le (R'.mut h1 rfl hv gn' (s' := .own (ds ++ [d])) ⟨L, ws ++ [y], rfl, gn', upd_same, r'.append (.cons dv .nil)⟩)
    · exact hq.elim
  · exact t.elim
end
/-! ### what is walked -/
abbrev DI (Ω : Type) := Gam Ω → (List (Dat Ω) → Gam Ω → Prop) → Prop
structure WalkD (K : PySem.W.Frag) (W : Obs Ω) (g : Gh Ω) (J : It) (ds : List (Dat Ω)) : Prop where
  go : ∀ (i : Nat) (d : Dat Ω) g2 H, ds[i]? = some d → Le g g2 → Subs W g2 H → J.go i H ∧ ∀ x H', J.yld i H x H' → ∃ g3, Grow W g2 H g3 H' ∧ DV K g3 x d
  stop : ∀ (i : Nat) g2 H, ds.length ≤ i → Le g g2 → Subs W g2 H → J.stop i H
def upI (K : PySem.W.Frag) (W : Obs Ω) (T : DI Ω) : TI := fun σ H R => ∃ F g γ q, Rep K W F g γ σ H ∧ T γ q ∧ ∀ ds γ' H' g' J, q ds γ' → Le g g' → Rep K W F g' γ' σ H' → WalkD K W g' J ds → R J H'
theorem PIc {X : Cx} {tg it : Expr} {t t' : TI} (h : PI X tg it t) (k : ∀ σ H R, t' σ H R → t σ H R) : PI X tg it t' := ⟨fun pins s σ H R I q => h.run pins s σ H R I (k σ H R q)⟩
section
variable {X : Cx} {tg it e : Expr} {T U : DE Ω} {pos p : Pos}
def iL (T : DE Ω) : DI Ω := fun γ q => T γ fun d γ' => match d with
  | .lst ds => q ds γ'
  | _ => False
def iT (T : DE Ω) : DI Ω := fun γ q => T γ fun d γ' => match d with
  | .tup ds => q ds γ'
  | _ => False
theorem walk_L {g : Gh Ω} {a : Addr} {xs : List V} {ds : List (Dat Ω)} (h : g a = some (.ho (.lst xs))) (r : DVs K g xs ds) : WalkD K W g (Itl K a) ds where
  go := fun i d g2 H hi le s => by
    have hH : H a = some (.lst xs) := Real.ho s (le _ _ h)
    obtain ⟨v, hv, dv⟩ := r.at' i d hi
    refine ⟨⟨xs, v, SqL.of hH, hv⟩, fun x H' ⟨e, y⟩ => ?_⟩
    subst e
    have := y xs (SqL.of hH)
    rw [hv] at this
    cases this
    exact ⟨g2, .refl s, dv.more le⟩
  stop := fun i g2 H hi le s => ⟨xs, SqL.of (Real.ho s (le _ _ h)), by rw [r.length]; exact hi⟩
theorem walk_T {g : Gh Ω} {a : Addr} {xs : List V} {ds : List (Dat Ω)} (h : ∀ g2 H, Le g g2 → Subs W g2 H → SqT K H a xs) (r : DVs K g xs ds) : WalkD K W g (Itt K a) ds where
  go := fun i d g2 H hi le s => by
    have hH := h g2 H le s
    obtain ⟨v, hv, dv⟩ := r.at' i d hi
    refine ⟨⟨xs, v, hH, hv⟩, fun x H' ⟨e, y⟩ => ?_⟩
    subst e
    have := y xs hH
    rw [hv] at this
    cases this
    exact ⟨g2, .refl s, dv.more le⟩
  stop := fun i g2 H hi le s => ⟨xs, h g2 H le s, by rw [r.length]; exact hi⟩
theorem id_L (h : PE X e (up K W T)) (hK : X.K = K := by rfl) : PI X tg e (upI K W (iL T)) := by
  subst hK
  refine PIc (pi_list h) fun σ H R ⟨F, g, γ, q, Rp, t, k⟩ => ⟨F, g, γ, _, Rp, t, fun d γ' v H' g' hq le R' dv => ?_⟩
  cases dv with
  | lst h r => exact ⟨_, rfl, ⟨_, SqL.of (Real.ho R'.sub h)⟩, k _ γ' H' g' _ hq le R' (walk_L h r)⟩
  | _ => exact hq.elim
theorem id_T (h : PE X e (up K W T)) (hK : X.K = K := by rfl) : PI X tg e (upI K W (iT T)) := by
  subst hK
  refine PIc (pi_tup h) fun σ H R ⟨F, g, γ, q, Rp, t, k⟩ => ⟨F, g, γ, _, Rp, t, fun d γ' v H' g' hq le R' dv => ?_⟩
  cases dv with
  | tup h r => exact ⟨_, rfl, ⟨_, SqT.of (Real.ho R'.sub h)⟩, k _ γ' H' g' _ hq le R' (walk_T (fun g2 H2 l s => SqT.of (Real.ho s (l _ _ h))) r)⟩
  | _ => exact hq.elim
def rngD (lo : Int) (n : Nat) : List (Dat Ω) := (List.range n).map fun (i : Nat) => .int (lo + (i : Int))
theorem rngD_at {lo : Int} {n i : Nat} {d : Dat Ω} (h : (rngD lo n)[i]? = some d) : i < n ∧ d = .int (lo + i) := by
  unfold rngD at h
  rw [List.getElem?_map] at h
  by_cases hi : i < n
  · rw [List.getElem?_range hi] at h
    exact ⟨hi, (Option.some.inj h).symm⟩
  · rw [List.getElem?_eq_none (by rw [List.length_range]; omega)] at h
    cases h
theorem rngD_len {lo : Int} {n : Nat} : (rngD (Ω := Ω) lo n).length = n := by
  unfold rngD
  rw [List.length_map, List.length_range]
theorem walk_R {g : Gh Ω} {lo : Int} {n : Nat} : WalkD K W g (Itr lo n) (rngD lo n) where
  go := fun i d g2 H hi le s => by
    obtain ⟨h1, rfl⟩ := rngD_at hi
    refine ⟨h1, fun x H' ⟨e, y⟩ => ?_⟩
    subst e y
    exact ⟨g2, .refl s, .int _⟩
  stop := fun i g2 H hi le s => by
    rw [rngD_len] at hi
    exact hi
def iR1 (T : DE Ω) : DI Ω := fun γ q => T γ fun d γ' => match d with
  | .int n => (-(2 ^ 62) ≤ n ∧ n < 2 ^ 62) ∧ q (rngD 0 n.toNat) γ'
  | _ => False
def iR2 (T U : DE Ω) : DI Ω := fun γ q => T γ fun d γ1 => U γ1 fun e γ' => match d, e with
  | .int i, .int j => (-(2 ^ 62) ≤ i ∧ i < 2 ^ 62 ∧ -(2 ^ 62) ≤ j ∧ j < 2 ^ 62) ∧ q (rngD i (j - i).toNat) γ'
  | _, _ => False
theorem id_R1 (h : PI X tg it (iRng1 (upK K W [T]))) : PI X tg it (upI K W (iR1 T)) := PIc h fun σ H R ⟨F, g, γ, q, Rp, t, k⟩ => by
  refine evK_sound [T] Rp (r := fun ds γ' => match ds with
    | [.int n] => (-(2 ^ 62) ≤ n ∧ n < 2 ^ 62) ∧ q (rngD 0 n.toNat) γ'
    | _ => False) ?_ fun ds γ' g' vs H' hq le R' dvs => ?_
  · refine (show T γ _ from ?_)
    have : (fun d γ' => match d with
      | Dat.int n => (-(2 ^ 62) ≤ n ∧ n < 2 ^ 62) ∧ q (rngD 0 n.toNat) γ'
      | _ => False) = (fun (d : Dat Ω) (γ1 : Gam Ω) => evK [] γ1 fun ds γ' => (match d :: ds with
        | [Dat.int n] => (-(2 ^ 62) ≤ n ∧ n < 2 ^ 62) ∧ q (rngD 0 n.toNat) γ'
        | _ => False)) := by
      funext d γ1
      cases d <;> rfl
    rw [← this]
    exact t
  · split at hq
    · cases dvs with
      | cons h1 r => cases r; cases h1; exact ⟨_, rfl, hq.1.1, hq.1.2, k _ γ' H' g' _ hq.2 le R' walk_R⟩
    · exact hq.elim
theorem id_R2 (h : PI X tg it (iRng2 (upK K W [T, U]))) : PI X tg it (upI K W (iR2 T U)) := PIc h fun σ H R ⟨F, g, γ, q, Rp, t, k⟩ => by
  refine evK_sound [T, U] Rp (r := fun ds γ' => match ds with
    | [.int i, .int j] => (-(2 ^ 62) ≤ i ∧ i < 2 ^ 62 ∧ -(2 ^ 62) ≤ j ∧ j < 2 ^ 62) ∧ q (rngD i (j - i).toNat) γ'
    | _ => False) ?_ fun ds γ' g' vs H' hq le R' dvs => ?_
  · refine (show T γ _ from ?_)
    have : (fun d γ1 => U γ1 fun e γ' => match d, e with
      | Dat.int i, Dat.int j => (-(2 ^ 62) ≤ i ∧ i < 2 ^ 62 ∧ -(2 ^ 62) ≤ j ∧ j < 2 ^ 62) ∧ q (rngD i (j - i).toNat) γ'
      | _, _ => False) = (fun (d : Dat Ω) (γ1 : Gam Ω) => evK [U] γ1 fun ds γ' => (match d :: ds with
        | [Dat.int i, Dat.int j] => (-(2 ^ 62) ≤ i ∧ i < 2 ^ 62 ∧ -(2 ^ 62) ≤ j ∧ j < 2 ^ 62) ∧ q (rngD i (j - i).toNat) γ'
        | _ => False)) := by
      funext d γ1
      show U γ1 _ = U γ1 _
      congr 1
      funext e γ2
      cases d <;> cases e <;> rfl
    rw [← this]
    exact t
  · split at hq
    · cases dvs with
      | cons h1 r => cases r with | cons h2 r => cases r; cases h1; cases h2; exact ⟨_, _, rfl, hq.1, k _ γ' H' g' _ hq.2 le R' walk_R⟩
    · exact hq.elim
def signsD (z : Str) : List (Dat Ω) := z.cps.toList.map fun c => .str ⟨#[c]⟩
def iS (T : DE Ω) : DI Ω := fun γ q => T γ fun d γ' => match d with
  | .str z => q (signsD z) γ'
  | _ => False
theorem id_S (h : PE X e (up K W T)) : PI X tg e (upI K W (iS T)) := PIc (pi_str h) fun σ H R ⟨F, g, γ, q, Rp, t, k⟩ => ⟨F, g, γ, _, Rp, t, fun d γ' v H' g' hq le R' dv => by
  cases dv with
  | str z =>
    refine ⟨z, rfl, k _ γ' H' g' _ hq le R' ⟨fun i d g2 H hi le s => ?_, fun i g2 H hi le s => ?_⟩⟩
    · unfold signsD at hi
      rw [List.getElem?_map] at hi
      cases hc : z.cps.toList[i]? with
      | none => rw [hc] at hi; cases hi
      | some c =>
        rw [hc] at hi
        cases hi
        have hl : i < z.cps.toList.length := (List.getElem?_eq_some_iff.mp hc).1
        refine ⟨by rw [Array.length_toList] at hl; exact hl, fun x H' ⟨e, c', hc', ex⟩ => ?_⟩
        subst e ex
        have : z.cps.toList[i]? = some c' := by rw [Array.getElem?_toList]; exact hc'
        rw [hc] at this
        cases this
        exact ⟨g2, .refl s, .str _⟩
    · unfold signsD at hi
      rw [List.length_map, Array.length_toList] at hi
      exact hi
  | _ => exact hq.elim⟩
end
/-! ### for -/
section
variable {X : Cx} {tg it : Expr} {st : Stmt} {TI : DI Ω} {G : DG Ω} {S : DS Ω}
structure loopD (G : DG Ω) (S : DS Ω) (D : EndsD Ω) (ds : List (Dat Ω)) (γ1 : Gam Ω) : Prop where
  ex : ∃ J : Nat → Gam Ω → Prop, J 0 γ1 ∧
    (∀ (i : Nat) (d : Dat Ω) γ, ds[i]? = some d → J i γ → G d γ fun γ2 => S { D with nx := J (i + 1), ct := J (i + 1), bk := D.nx } γ2) ∧ ∀ γ, J ds.length γ → D.nx γ
def dFor (TI : DI Ω) (G : DG Ω) (S : DS Ω) : DS Ω := fun D γ => TI γ fun ds γ1 => loopD G S D ds γ1
theorem ds_for {ix : List Nat} (h : PS X st (tFor (upI K W TI) (upG K W ix G) (upS K W S))) : PS X st (upS K W (dFor TI G S)) := PSc h fun D σ H ⟨F, g, γ, E, R, t, f⟩ =>
  ⟨F, g, γ, _, R, t, fun ds γ1 H1 g1 J hq le R1 wk => by
    obtain ⟨P, p0, ps, pe⟩ := hq.ex
    refine ⟨fun i m σ' H' => m = ds.length - i ∧ i ≤ ds.length ∧ ∃ γ' g', P i γ' ∧ Le g1 g' ∧ Rep K W F g' γ' σ' H', ⟨_, rfl, Nat.zero_le _, γ1, g1, p0, .refl g1, R1⟩, ?_⟩
    rintro i m σ' H' ⟨rfl, hi, γ', g', hp, le', R'⟩
    by_cases hlt : i < ds.length
    · have hd : ds[i]? = some ds[i] := List.getElem?_eq_getElem hlt
      obtain ⟨w1, w2⟩ := wk.go i _ g' H' hd le' R'.sub
      refine .inr ⟨w1, fun σ2 H2 => ∃ γ2 g2, P (i + 1) γ2 ∧ Le g1 g2 ∧ Rep K W F g2 γ2 σ2 H2, fun σ2 H2 ⟨γ2, g2, a, b, c⟩ => ⟨_, by omega, rfl, by omega, γ2, g2, a, b, c⟩, fun x H2 y => ?_⟩
      obtain ⟨g3, G3, dv⟩ := w2 x H2 y
      refine ⟨F, g3, γ', _, _, R'.grow G3, dv, ps i _ γ' hd hp, fun γ4 σ4 H4 g4 hs _ le4 R4 => ?_⟩
      have l4 : Le g1 g4 := (le'.tr G3.le).tr le4
      refine ⟨F, g4, γ4, _, R4, hs, ⟨fun γ5 σ5 H5 g5 a b c => ⟨γ5, g5, a, l4.tr b, c⟩, fun d γ5 v σ5 H5 g5 a b c e => f.rt d γ5 v σ5 H5 g5 a ((le.tr l4).tr b) c e, fun γ5 σ5 H5 g5 a b c => f.nx γ5 σ5 H5 g5 a ((le.tr l4).tr b) c, fun γ5 σ5 H5 g5 a b c => ⟨γ5, g5, a, l4.tr b, c⟩⟩⟩
    · have e : i = ds.length := by omega
      subst e
      exact .inl ⟨wk.stop _ g' H' (Nat.le_refl _) le' R'.sub, f.nx γ' σ' H' g' (pe γ' hp) (le.tr le') R'⟩⟩
end
/-! ### comprehensions -/
def wipeG (γ : Gam Ω) : List Nat → Gam Ω
  | [] => γ
  | v :: vs => (wipeG γ vs).set v none
theorem Rep.wipe {F : Hp} {g : Gh Ω} {γ : Gam Ω} {σ : L2.St} {H : Hp} (R : Rep K W F g γ σ H) : ∀ vs, Rep K W F g (wipeG γ vs) (L2.wipe σ vs) H
  | [] => R
  | v :: vs => (R.wipe vs).unset v none
theorem wipeG_in : ∀ {vs : List Nat} {γ : Gam Ω} {i : Nat} {s : Sl Ω}, (wipeG γ vs)[i]? = some (some s) → γ[i]? = some (some s) ∧ i ∉ vs
  | [], γ, i, s, h => ⟨h, by simp⟩
  | v :: vs, γ, i, s, h => by
    unfold wipeG at h
    by_cases hv : v = i
    · subst hv
      by_cases hl : v < (wipeG γ vs).length
      · rw [List.getElem?_set_self hl] at h
        cases h
      · rw [List.getElem?_eq_none (by rw [List.length_set]; omega)] at h
        cases h
    · rw [List.getElem?_set_ne hv] at h
      obtain ⟨h1, h2⟩ := wipeG_in h
      exact ⟨h1, fun z => (List.mem_cons.mp z).elim (fun e => hv e.symm) h2⟩
/-- slots that are not known may hold anything -/
theorem Rep.of_out {F : Hp} {g : Gh Ω} {γ : Gam Ω} {σ σ' : L2.St} {H : Hp} (R : Rep K W F g γ σ H) (hl : σ'.length = σ.length) (k : ∀ (i : Nat) s, γ[i]? = some (some s) → σ'[i]? = σ[i]?) : Rep K W F g γ σ' H where
  len := hl.trans R.len
  sl := fun i s e => by
    obtain ⟨v, h1, h2⟩ := R.sl i s e
    exact ⟨v, by rw [k i s e]; exact h1, h2⟩
  apart := fun i j s t L ne a b c d e f => R.apart i j s t L ne a b c d (by rw [← k i s a]; exact e) (by rw [← k j t b]; exact f)
  sub := R.sub
  fr := R.fr
  fo := fun i s L a b c => R.fo i s L a b (by rw [← k i s a]; exact c)
def hdel (H : Hp) (a : Addr) : Hp := fun b => if b = a then none else H b
theorem hdel_upd {H : Hp} {a : Addr} {o : HO} (h : H a = some o) : upd (hdel H a) a o = H := by
  funext b
  unfold upd hdel
  by_cases e : b = a
  · rw [if_pos e, e, h]
  · rw [if_neg e, if_neg e]
theorem Rep.foreign {F : Hp} {g : Gh Ω} {γ : Gam Ω} {σ : L2.St} {H : Hp} {D : Addr} {o : HO} (R : Rep K W F g γ σ H) (n : H D = none) : Rep K W (upd F D o) g γ σ (upd H D o) := by
  have G : Grow W g H g (upd H D o) := Grow.own R.sub n
  have R1 := R.grow G
  refine ⟨R1.len, R1.sl, R1.apart, R1.sub, fun a u e => ?_, fun i s L e os ev => ?_⟩
  · by_cases ha : a = D
    · subst ha
      rw [upd_same] at e
      cases e
      exact ⟨upd_same, gnone R.sub n⟩
    · rw [upd_ne ha] at e
      exact R1.fr a u e
  · have ne : L ≠ D := fun z => by
      subst z
      obtain ⟨v, hv, ok⟩ := R.sl i s e
      rw [ev] at hv
      cases hv
      cases s with
      | dat d => cases os
      | raw w => cases os
      | own ds =>
        obtain ⟨L2, vs, e2, _, h2, _⟩ := ok
        cases e2
        rw [n] at h2
        cases h2
      | ownK ks ds =>
        obtain ⟨L2, vs, e2, _, h2, _⟩ := ok
        cases e2
        rw [n] at h2
        cases h2
      | box p m =>
        obtain ⟨e2, _, b0, b1, b2, h2, _⟩ := ok
        cases e2
        rw [n] at h2
        cases h2
    rw [upd_ne ne]
    exact R1.fo i s L e os ev
/-- the foreign thing is another one now -/
theorem Rep.refor {F : Hp} {g : Gh Ω} {γ : Gam Ω} {σ : L2.St} {H : Hp} {D : Addr} {o o' : HO} (R : Rep K W (upd F D o) g γ σ H) : Rep K W (upd F D o') g γ σ (upd H D o') := by
  have gn : g D = none := (R.fr D o upd_same).2
  have fo : ∀ (i : Nat) (s : Sl Ω) L, γ[i]? = some (some s) → s.owned = true → σ[i]? = some (some (.ref L)) → L ≠ D := fun i s L e os ev z => by
    have := R.fo i s L e os ev
    rw [z, upd_same] at this
    cases this
  have kp : ∀ a, a ≠ D → upd H D o' a = H a := fun a h => upd_ne h
  refine ⟨R.len, fun i s e => ?_, R.apart, fun a u e => ?_, fun a u e => ?_, fun i s L e os ev => ?_⟩
  · obtain ⟨v, hv, ok⟩ := R.sl i s e
    refine ⟨v, hv, ?_⟩
    cases s with
    | dat d => exact ok
    | raw w => exact ok
    | own ds =>
      obtain ⟨L, vs, rfl, n, h2, r⟩ := ok
      exact ⟨L, vs, rfl, n, by rw [kp _ (fo i _ L e rfl hv)]; exact h2, r⟩
    | ownK ks ds =>
      obtain ⟨L, vs, rfl, n, h2, l, r⟩ := ok
      exact ⟨L, vs, rfl, n, by rw [kp _ (fo i _ L e rfl hv)]; exact h2, l, r⟩
    | box p m =>
      obtain ⟨rfl, n, b0, b1, b2, h2, r⟩ := ok
      exact ⟨rfl, n, b0, b1, b2, by rw [kp _ (fo i _ p e rfl hv)]; exact h2, r⟩
  · have ne : a ≠ D := fun z => by rw [z, gn] at e; cases e
    exact (R.sub a u e).mono (.refl g) fun o2 q => by rw [kp _ ne]; exact q
  · by_cases ha : a = D
    · subst ha
      rw [upd_same] at e
      cases e
      exact ⟨upd_same, gn⟩
    · rw [upd_ne ha] at e
      have := R.fr a u (by rw [upd_ne ha]; exact e)
      exact ⟨by rw [kp _ ha]; exact this.1, this.2⟩
  · have := R.fo i s L e os ev
    have ne := fo i s L e os ev
    rw [upd_ne ne] at this ⊢
    exact this
theorem Rep.home {F : Hp} {g : Gh Ω} {γ : Gam Ω} {σ : L2.St} {H : Hp} {D : Addr} {o : HO} (R : Rep K W (upd F D o) g γ σ H) (fn : F D = none) : Rep K W F g γ σ (hdel H D) := by
  have gn : g D = none := (R.fr D o upd_same).2
  have fo : ∀ (i : Nat) (s : Sl Ω) L, γ[i]? = some (some s) → s.owned = true → σ[i]? = some (some (.ref L)) → L ≠ D := fun i s L e os ev z => by
    have := R.fo i s L e os ev
    rw [z, upd_same] at this
    cases this
  have kp : ∀ a, a ≠ D → hdel H D a = H a := fun a h => if_neg h
  refine ⟨R.len, fun i s e => ?_, R.apart, fun a u e => ?_, fun a u e => ?_, fun i s L e os ev => ?_⟩
  · obtain ⟨v, hv, ok⟩ := R.sl i s e
    refine ⟨v, hv, ?_⟩
    cases s with
    | dat d => exact ok
    | raw w => exact ok
    | own ds =>
      obtain ⟨L, vs, rfl, n, h2, r⟩ := ok
      exact ⟨L, vs, rfl, n, by rw [kp _ (fo i _ L e rfl hv)]; exact h2, r⟩
    | ownK ks ds =>
      obtain ⟨L, vs, rfl, n, h2, l, r⟩ := ok
      exact ⟨L, vs, rfl, n, by rw [kp _ (fo i _ L e rfl hv)]; exact h2, l, r⟩
    | box p m =>
      obtain ⟨rfl, n, b0, b1, b2, h2, r⟩ := ok
      exact ⟨rfl, n, b0, b1, b2, by rw [kp _ (fo i _ p e rfl hv)]; exact h2, r⟩
  · have ne : a ≠ D := fun z => by rw [z, gn] at e; cases e
    exact (R.sub a u e).mono (.refl g) fun o2 q => by rw [kp _ ne]; exact q
  · have ha : a ≠ D := fun z => by rw [z, fn] at e; cases e
    have := R.fr a u (by rw [upd_ne ha]; exact e)
    exact ⟨by rw [kp _ ha]; exact this.1, this.2⟩
  · have := R.fo i s L e os ev
    rw [upd_ne (fo i s L e os ev)] at this
    exact this
section
variable {X : Cx} {TI : DI Ω} {G : DG Ω} {t : DT Ω} {T : DE Ω} {vs ix : List Nat}
structure compD (vs : List Nat) (G : DG Ω) (t : DT Ω) (T : DE Ω) (q : Dat Ω → Gam Ω → Prop) (ds : List (Dat Ω)) (γ1 : Gam Ω) : Prop where
  ex : ∃ J : Nat → List (Dat Ω) → Gam Ω → Prop, J 0 [] (wipeG γ1 vs) ∧
  (∀ (i : Nat) (d : Dat Ω) acc γ, ds[i]? = some d → J i acc γ → G d γ fun γ2 => t γ2 fun b γ3 => if b = true then T γ3 fun y γ4 => acc.length < sizeLine ∧ J (i + 1) (acc ++ [y]) (wipeG γ4 vs) else J (i + 1) acc (wipeG γ3 vs)) ∧
  ∀ acc γ, J ds.length acc γ → q (.lst acc) γ
def dComp (vs : List Nat) (TI : DI Ω) (G : DG Ω) (t : DT Ω) (T : DE Ω) : DE Ω := fun γ q => TI γ fun ds γ1 => compD vs G t T q ds γ1
theorem wipe_but {σ σ' : L2.St} {vs ix : List Nat} (h : But ix σ σ') (hi : ∀ i ∈ ix, i ∈ vs) : L2.wipe σ' vs = L2.wipe σ vs := by
  apply List.ext_getElem?
  intro i
  by_cases hv : i ∈ vs
  · have e1 : ∀ s : L2.St, (L2.wipe s vs)[i]? = if i < s.length then some none else none := by
      intro s
      have hn : ∀ x, (L2.wipe s vs)[i]? ≠ some (some x) := fun x hx => (wipe_some hx).2 hv
      by_cases hl : i < s.length
      · rw [if_pos hl]
        have hl2 : i < (L2.wipe s vs).length := by rw [wipe_length]; exact hl
        rw [List.getElem?_eq_getElem hl2]
        cases hz : (L2.wipe s vs)[i] with
        | none => rfl
        | some x => exact absurd (by rw [List.getElem?_eq_getElem hl2, hz]) (hn x)
      · rw [if_neg hl, List.getElem?_eq_none (by rw [wipe_length]; omega)]
    rw [e1, e1, h.1]
  · rw [wipe_out hv, wipe_out hv]
    exact h.2 i fun z => hv (hi i z)
theorem lc_up (hi : ∀ i ∈ ix, i ∈ vs) : ∀ σ H Q, upF K W (dComp vs TI G t T) σ H Q → tLc (upI K W TI) (upG K W ix G) (upT K W t) (up K W T) vs σ H Q := fun σ H Q ⟨F, g, γ, q, R, e, k⟩ =>
  ⟨F, g, γ, _, R, e, fun ds γ1 H1 g1 Ji hq le R1 wk D nD => by
    obtain ⟨P, p0, ps, pe⟩ := hq.ex
    have fn : F D = none := by
      cases h : F D with
      | none => rfl
      | some u =>
        have := (R1.fr D u h).1
        rw [nD] at this
        cases this
    have back : ∀ {F' g' γ' σ' H'}, Rep K W F' g' γ' σ' H' → L2.wipe σ' vs = L2.wipe σ vs → Rep K W F' g' (wipeG γ' vs) (L2.wipe σ vs) H' := fun {F' g' γ' σ' H'} R' e => by
      rw [← e]
      exact R'.wipe vs
    refine ⟨fun i m H' => m = ds.length - i ∧ i ≤ ds.length ∧ ∃ acc ws γ' g', P i acc γ' ∧ Le g1 g' ∧ DVs K g' ws acc ∧ H' D = some (.lst ws) ∧ Rep K W (upd F D (.lst ws)) g' γ' (L2.wipe σ vs) H' ∧ (∀ (i : Nat) s, γ'[i]? = some (some s) → i ∉ vs), ⟨_, rfl, Nat.zero_le _, [], [], wipeG γ1 vs, g1, p0, .refl g1, .nil, upd_same, (R1.wipe vs).foreign nD, fun i s e => (wipeG_in e).2⟩, ?_⟩
    rintro i m H' ⟨rfl, hi', acc, ws, γ', g', hp, le', dvs, hD, R', out⟩
    by_cases hlt : i < ds.length
    · have hd : ds[i]? = some ds[i] := List.getElem?_eq_getElem hlt
      obtain ⟨w1, w2⟩ := wk.go i _ g' H' hd le' R'.sub
      refine .inr ⟨w1, fun H2 => ∃ acc ws γ2 g2, P (i + 1) acc γ2 ∧ Le g1 g2 ∧ DVs K g2 ws acc ∧ H2 D = some (.lst ws) ∧ Rep K W (upd F D (.lst ws)) g2 γ2 (L2.wipe σ vs) H2 ∧ (∀ (i : Nat) s, γ2[i]? = some (some s) → i ∉ vs), fun H2 ⟨a, b, c, d, e, f, h, j, l, o⟩ => ⟨_, by omega, rfl, by omega, a, b, c, d, e, f, h, j, l, o⟩, fun x H2 y => ?_⟩
      obtain ⟨g3, G3, dv⟩ := w2 x H2 y
      refine ⟨_, g3, γ', _, _, R'.grow G3, dv, ps i _ acc γ' hd hp, fun γ4 σ4 H4 g4 hs bu le4 R4 => ⟨?_, ?_⟩⟩
      · rw [wipe_but bu hi]
        have : ∀ (s : L2.St) (l : List Nat), L2.wipe (L2.wipe s vs) l = L2.wipe (L2.wipe s vs) l := fun _ _ => rfl
        apply List.ext_getElem?
        intro j
        by_cases hj : j ∈ vs
        · by_cases hl : j < σ.length
          · have hl2 : j < (L2.wipe (L2.wipe σ vs) vs).length := by rw [wipe_length, wipe_length]; exact hl
            have hl3 : j < (L2.wipe σ vs).length := by rw [wipe_length]; exact hl
            rw [List.getElem?_eq_getElem hl2, List.getElem?_eq_getElem hl3]
            cases h1 : (L2.wipe (L2.wipe σ vs) vs)[j] with
            | some x => exact absurd hj (wipe_some (by rw [List.getElem?_eq_getElem hl2, h1])).2
            | none =>
              cases h2 : (L2.wipe σ vs)[j] with
              | some x => exact absurd hj (wipe_some (by rw [List.getElem?_eq_getElem hl3, h2])).2
              | none => rfl
          · rw [List.getElem?_eq_none (by rw [wipe_length, wipe_length]; omega), List.getElem?_eq_none (by rw [wipe_length]; omega)]
        · rw [wipe_out hj]
      · have w4 : L2.wipe σ4 vs = L2.wipe σ vs := by
          rw [wipe_but bu hi]
          apply List.ext_getElem?
          intro j
          by_cases hj : j ∈ vs
          · by_cases hl : j < σ.length
            · have hl2 : j < (L2.wipe (L2.wipe σ vs) vs).length := by rw [wipe_length, wipe_length]; exact hl
              have hl3 : j < (L2.wipe σ vs).length := by rw [wipe_length]; exact hl
              rw [List.getElem?_eq_getElem hl2, List.getElem?_eq_getElem hl3]
              cases h1 : (L2.wipe (L2.wipe σ vs) vs)[j] with
              | some x => exact absurd hj (wipe_some (by rw [List.getElem?_eq_getElem hl2, h1])).2
              | none =>
                cases h2 : (L2.wipe σ vs)[j] with
                | some x => exact absurd hj (wipe_some (by rw [List.getElem?_eq_getElem hl3, h2])).2
                | none => rfl
            · rw [List.getElem?_eq_none (by rw [wipe_length, wipe_length]; omega), List.getElem?_eq_none (by rw [wipe_length]; omega)]
          · rw [wipe_out hj]
        have l4 : Le g1 g4 := (le'.tr G3.le).tr le4
        refine ⟨_, g4, γ4, _, R4, hs, fun b γ5 H5 g5 hb le5 R5 => ?_⟩
        cases b with
        | false => exact ⟨acc, ws, _, g5, hb, l4.tr le5, dvs.more ((G3.le.tr le4).tr le5), (R5.fr D _ upd_same).1, back R5 w4, fun i s e => (wipeG_in e).2⟩
        | true =>
          refine ⟨_, g5, γ5, _, R5, hb, fun d γ6 v H6 g6 hv le6 R6 dv6 => ⟨ws, (R6.fr D _ upd_same).1, ?_, ?_⟩⟩
          · have := dvs.length
            omega
          · refine ⟨acc ++ [d], ws ++ [v], _, g6, hv.2, (l4.tr le5).tr le6, (dvs.more (((G3.le.tr le4).tr le5).tr le6)).append (.cons dv6 .nil), upd_same, (back R6 w4).refor, fun i s e => (wipeG_in e).2⟩
    · have e : i = ds.length := by omega
      subst e
      refine .inl ⟨wk.stop _ g' H' (Nat.le_refl _) le' R'.sub, ?_⟩
      have R2 : Rep K W F g' γ' σ (hdel H' D) := (R'.home fn).of_out (wipe_length σ vs).symm fun i s e => (wipe_out (out i s e)).symm
      have := k acc γ' ws D (hdel H' D) g' (pe acc γ' hp) (le.tr le') R2 (if_pos rfl) dvs
      rw [hdel_upd hD] at this
      exact this⟩
end
end
end DL
set_option Elab.async false
set_option linter.all false
set_option maxRecDepth 100000
set_option maxHeartbeats 4000000
namespace DL
open PySem PySem.Spec PyProof.Rows L2 Nv
section
variable {Ω : Type} {K : PySem.W.Frag} {W : Obs Ω}
/-! ### promises over data -/
structure Frm (W : Obs Ω) (F : Hp) (g : Gh Ω) (H : Hp) : Prop where
  sub : Subs W g H
  fr : ∀ a o, F a = some o → H a = some o ∧ g a = none
/-- data in, a datum out -/
def spP (K : PySem.W.Frag) (W : Obs Ω) (f : FD Ω) : Sp := fun vs H Q _ => ∃ F g ds q, Frm W F g H ∧ DVs K g vs ds ∧ f ds q ∧ ∀ d v g' H', q d → Le g g' → Frm W F g' H' → DV K g' v d → Q v H'
/-- a box and data in -/
def spB (K : PySem.W.Frag) (W : Obs Ω) (f : Nat → List (Dat Ω) → (Dat Ω → Nat → Prop) → Prop) : Sp := fun vs H Q _ => ∃ F g p m ws ds q, vs = .ref p :: ws ∧ Frm W F g H ∧ F p = none ∧ g p = none ∧ BoxAt H p m ∧ DVs K g ws ds ∧ f m ds q ∧
  ∀ d m' v g' H', q d m' → Le g g' → Frm W F g' H' → g' p = none → BoxAt H' p m' → DV K g' v d → Q v H'
/-- take's own -/
def ButP (p : Addr) (H H' : Hp) : Prop := ∀ c o, c ≠ p → H c = some o → H' c = some o
def spTk : Sp := fun vs H Q _ => ∃ (p : Addr) (m : Nat) (many : Int), vs = [.ref p, .int many] ∧ BoxAt H p m ∧ m ≤ 1000000 ∧ 0 < many ∧ many ≤ 100000 ∧ ∀ r H', 0 ≤ r → r < many → BoxAt H' p (m + 1) → ButP p H H' → Q (.int r) H'
def ent (N : List Str) (ds : List (Dat Ω)) : Gam Ω := ds.map (fun d => some (.dat d)) ++ List.replicate (N.length - ds.length) none
def entB (N : List Str) (p : Addr) (m : Nat) (ds : List (Dat Ω)) : Gam Ω := some (.box p m) :: (ds.map (fun d => some (.dat d)) ++ List.replicate (N.length - (ds.length + 1)) none)
theorem ent_at {N : List Str} {ds : List (Dat Ω)} {i : Nat} {s : Sl Ω} (h : (ent N ds)[i]? = some (some s)) : ∃ d, ds[i]? = some d ∧ s = .dat d := by
  unfold ent at h
  by_cases hi : i < ds.length
  · rw [List.getElem?_append_left (by rw [List.length_map]; exact hi), List.getElem?_map, List.getElem?_eq_getElem hi] at h
    exact ⟨ds[i], List.getElem?_eq_getElem hi, (Option.some.inj (Option.some.inj h)).symm⟩
  · rw [List.getElem?_append_right (by rw [List.length_map]; omega), List.getElem?_replicate] at h
    split at h
    · cases h
    · cases h
theorem start_at {N : List Str} {vs : List V} {i : Nat} {v : V} (h : vs[i]? = some v) : (L2.start N vs)[i]? = some (some v) := by
  have hi : i < vs.length := (List.getElem?_eq_some_iff.mp h).1
  unfold L2.start
  rw [List.getElem?_append_left (by rw [List.length_map]; exact hi), List.getElem?_map, h]
  rfl
theorem rep_ent {F : Hp} {g : Gh Ω} {H : Hp} {N : List Str} {vs : List V} {ds : List (Dat Ω)} (f : Frm W F g H) (r : DVs K g vs ds) : Rep K W F g (ent N ds) (L2.start N vs) H where
  len := by
    unfold ent L2.start
    rw [List.length_append, List.length_append, List.length_map, List.length_map, List.length_replicate, List.length_replicate, r.length]
  sl := fun i s h => by
    obtain ⟨d, hd, rfl⟩ := ent_at h
    obtain ⟨v, hv, dv⟩ := r.at' i d hd
    exact ⟨v, start_at hv, dv⟩
  apart := fun i j s t L ne a b c d e f => by
    obtain ⟨d, hd, rfl⟩ := ent_at a
    cases c
  sub := f.sub
  fr := f.fr
  fo := fun i s L a b c => by
    obtain ⟨d, hd, rfl⟩ := ent_at a
    cases b
theorem entB_at {N : List Str} {p : Addr} {m : Nat} {ds : List (Dat Ω)} {i : Nat} {s : Sl Ω} (h : (entB N p m ds)[i]? = some (some s)) : (i = 0 ∧ s = .box p m) ∨ ∃ j d, i = j + 1 ∧ ds[j]? = some d ∧ s = .dat d := by
  cases i with
  | zero =>
    have h : some (some (Sl.box p m)) = some (some s) := h
    cases h
    exact .inl ⟨rfl, rfl⟩
  | succ j =>
    have h : (ds.map (fun d => some (Sl.dat d)) ++ List.replicate (N.length - (ds.length + 1)) none)[j]? = some (some s) := h
    by_cases hi : j < ds.length
    · rw [List.getElem?_append_left (by rw [List.length_map]; exact hi), List.getElem?_map, List.getElem?_eq_getElem hi] at h
      exact .inr ⟨j, ds[j], rfl, List.getElem?_eq_getElem hi, (Option.some.inj (Option.some.inj h)).symm⟩
    · rw [List.getElem?_append_right (by rw [List.length_map]; omega), List.getElem?_replicate] at h
      split at h
      · cases h
      · cases h
theorem rep_entB {F : Hp} {g : Gh Ω} {H : Hp} {N : List Str} {p : Addr} {m : Nat} {vs : List V} {ds : List (Dat Ω)} (f : Frm W F g H) (fp : F p = none) (gp : g p = none) (b : BoxAt H p m) (r : DVs K g vs ds) : Rep K W F g (entB N p m ds) (L2.start N (.ref p :: vs)) H where
  len := by
    have h1 := r.length
    unfold entB L2.start
    simp only [List.length_cons, List.length_append, List.length_map, List.length_replicate]
    omega
  sl := fun i s h => by
    rcases entB_at h with ⟨rfl, rfl⟩ | ⟨j, d, rfl, hd, rfl⟩
    · exact ⟨.ref p, rfl, rfl, gp, b⟩
    · obtain ⟨v, hv, dv⟩ := r.at' j d hd
      exact ⟨v, start_at (vs := .ref p :: vs) (i := j + 1) (by simpa using hv), dv⟩
  apart := fun i j s t L ne a b c d e f => by
    rcases entB_at a with ⟨rfl, rfl⟩ | ⟨j1, d1, rfl, hd, rfl⟩
    · rcases entB_at b with ⟨rfl, rfl⟩ | ⟨j2, d2, rfl, hd, rfl⟩
      · exact ne rfl
      · cases d
    · cases c
  sub := f.sub
  fr := f.fr
  fo := fun i s L a b c => by
    rcases entB_at a with ⟨rfl, rfl⟩ | ⟨j1, d1, rfl, hd, rfl⟩
    · have : (L2.start N (.ref p :: vs))[0]? = some (some (.ref p)) := start_at rfl
      rw [this] at c
      cases c
      exact fp
    · cases b
section
variable {P : Program} {w : World} {mg : Str → Option Value} {base : Heap}
theorem fnP {x qual : Str} {st : Stmt} {f : Addr} {fd : FuncData} {N ps : List Str} {k : Nat} {fD : FD Ω} (Fn : Fun K x qual st f fd) (S : FnScope N ps (defScope st)) (len : ∀ ds q, fD ds q → ds.length = ps.length)
    (body : ∀ (cdv : Value) (A : Around) (outer : List Env) (s : Shared) (H : Hp) (E : XK), Room k (A.deeper (envOfC qual (defScope st) s.heap.objs.size f cdv)) →
      ∃ T, PSs (cxOf CX0 P w K mg base N qual (defScope st) f cdv A outer s H E).nox (defBody st) (upS K W T) ∧ ∀ ds q, fD ds q → T { nx := fun _ => q .non, rt := fun d _ => q d } (ent N ds)) : FnOk P w K mg base CX0 (k + 1) f fd ps (spP K W fD) := by
  refine Fn.ok S (fun vs H Q E ⟨F, g, ds, q, fr, dvs, hf, _⟩ => by rw [dvs.length]; exact len ds q hf) fun cdv A outer s H vs Q E hr ⟨F, g, ds, q, fr, dvs, hf, k⟩ => ?_
  obtain ⟨T, h, b⟩ := body cdv A outer s H E hr
  refine ⟨_, h, F, g, ent N ds, _, rep_ent fr dvs, b ds q hf, ⟨fun γ' σ' H' g' e le R => ?_, fun d γ' v σ' H' g' e le R dv => ?_, fun γ' σ' H' g' e le R => e.elim, fun γ' σ' H' g' e le R => e.elim⟩⟩
  · exact k .non .non g' H' e le ⟨R.sub, R.fr⟩ .non
  · exact k d v g' H' e le ⟨R.sub, R.fr⟩ dv
theorem fnB {x qual : Str} {st : Stmt} {f : Addr} {fd : FuncData} {N ps : List Str} {k : Nat} {fD : Nat → List (Dat Ω) → (Dat Ω → Nat → Prop) → Prop} (Fn : Fun K x qual st f fd) (S : FnScope N ps (defScope st)) (len : ∀ m ds q, fD m ds q → ds.length + 1 = ps.length)
    (body : ∀ (cdv : Value) (A : Around) (outer : List Env) (s : Shared) (H : Hp) (E : XK), Room k (A.deeper (envOfC qual (defScope st) s.heap.objs.size f cdv)) →
      ∃ T, PSs (cxOf CX0 P w K mg base N qual (defScope st) f cdv A outer s H E).nox (defBody st) (upS K W T) ∧ ∀ p m ds q, fD m ds q → T { nx := fun γ => ∃ m', γ[0]? = some (some (.box p m')) ∧ q .non m', rt := fun d γ => ∃ m', γ[0]? = some (some (.box p m')) ∧ q d m' } (entB N p m ds)) : FnOk P w K mg base CX0 (k + 1) f fd ps (spB K W fD) := by
  refine Fn.ok S (fun vs H Q E ⟨F, g, p, m, ws, ds, q, ev, fr, fp, gp, b, dvs, hf, _⟩ => by rw [ev, List.length_cons, dvs.length]; exact len m ds q hf) fun cdv A outer s H vs Q E hr ⟨F, g, p, m, ws, ds, q, ev, fr, fp, gp, bx, dvs, hf, k⟩ => ?_
  subst ev
  obtain ⟨T, h, b⟩ := body cdv A outer s H E hr
  refine ⟨_, h, F, g, entB N p m ds, _, rep_entB fr fp gp bx dvs, b p m ds q hf, ⟨fun γ' σ' H' g' ⟨m', e0, e⟩ le R => ?_, fun d γ' v σ' H' g' ⟨m', e0, e⟩ le R dv => ?_, fun γ' σ' H' g' e le R => e.elim, fun γ' σ' H' g' e le R => e.elim⟩⟩
  · obtain ⟨v, hv, rfl, gn, bx'⟩ := R.sl 0 _ e0
    exact k .non m' .non g' H' e le ⟨R.sub, R.fr⟩ gn bx' .non
  · obtain ⟨v, hv, rfl, gn, bx'⟩ := R.sl 0 _ e0
    exact k d m' _ g' H' e le ⟨R.sub, R.fr⟩ gn bx' dv
end
/-! ### calls -/
theorem Rep.after {F : Hp} {g g' : Gh Ω} {γ : Gam Ω} {σ : L2.St} {H H' : Hp} (R : Rep K W F g γ σ H) (le : Le g g') (s : Subs W g' H') (k : ∀ a o, H a = some o → g a = none → H' a = some o ∧ g' a = none) : Rep K W F g' γ σ H' where
  len := R.len
  sl := fun i t e => by
    obtain ⟨v, h1, h2⟩ := R.sl i t e
    refine ⟨v, h1, ?_⟩
    cases t with
    | dat d => exact DV.more le h2
    | own ds =>
      obtain ⟨L, vs, rfl, n, hl, r⟩ := h2
      exact ⟨L, vs, rfl, (k _ _ hl n).2, (k _ _ hl n).1, r.more le⟩
    | ownK ks ds =>
      obtain ⟨L, vs, rfl, n, hl, l, r⟩ := h2
      exact ⟨L, vs, rfl, (k _ _ hl n).2, (k _ _ hl n).1, l, r.more le⟩
    | box p m =>
      obtain ⟨rfl, n, b0, b1, b2, hp, r⟩ := h2
      exact ⟨rfl, (k _ _ hp n).2, b0, b1, b2, (k _ _ hp n).1, r⟩
    | raw w => exact h2
  apart := R.apart
  sub := s
  fr := fun a o e => by
    obtain ⟨h1, h2⟩ := R.fr a o e
    exact k a o h1 h2
  fo := R.fo
/-- .. but for the box at slot i -/
theorem Rep.afterB {F : Hp} {g g' : Gh Ω} {γ : Gam Ω} {σ : L2.St} {H H' : Hp} {i : Nat} {p : Addr} {m m' : Nat} (R : Rep K W F g γ σ H) (e : γ[i]? = some (some (.box p m))) (le : Le g g') (s : Subs W g' H') (k : ∀ a o, a ≠ p → H a = some o → g a = none → H' a = some o ∧ g' a = none)
    (gp : g' p = none) (b : BoxAt H' p m') : Rep K W F g' (γ.set i (some (.box p m'))) σ H' := by
  have hl : i < γ.length := (List.getElem?_eq_some_iff.mp e).1
  obtain ⟨v, hv, rfl, gn, b0⟩ := R.sl i _ e
  refine ⟨by rw [List.length_set]; exact R.len, fun j t ej => ?_, fun a b s1 t L' ne ha hb o1 ot va vb => ?_, s, fun a o e => ?_, fun j t L' ej ot vj => ?_⟩
  · by_cases hj : i = j
    · subst hj
      rw [List.getElem?_set_self hl] at ej
      cases ej
      exact ⟨_, hv, rfl, gp, b⟩
    · rw [List.getElem?_set_ne hj] at ej
      obtain ⟨u, h1, h2⟩ := R.sl j t ej
      refine ⟨u, h1, ?_⟩
      have ap : ∀ L, t.owned = true → u = .ref L → L ≠ p := fun L ot eu z => R.apart i j _ _ p hj e ej rfl ot hv (by rw [h1, eu, z])
      cases t with
      | dat d => exact DV.more le h2
      | own ds =>
        obtain ⟨L, vs, rfl, n, hl, r⟩ := h2
        have := k L _ (ap L rfl rfl) hl n
        exact ⟨L, vs, rfl, this.2, this.1, r.more le⟩
      | ownK ks ds =>
        obtain ⟨L, vs, rfl, n, hl, l, r⟩ := h2
        have := k L _ (ap L rfl rfl) hl n
        exact ⟨L, vs, rfl, this.2, this.1, l, r.more le⟩
      | box p2 m2 =>
        obtain ⟨rfl, n, c0, c1, c2, hp, r⟩ := h2
        have := k p2 _ (ap p2 rfl rfl) hp n
        exact ⟨rfl, this.2, c0, c1, c2, this.1, r⟩
      | raw w => exact h2
  · have fa : ∃ s0, γ[a]? = some (some s0) ∧ s0.owned = true := by
      by_cases z : i = a
      · subst z
        exact ⟨_, e, rfl⟩
      · rw [List.getElem?_set_ne z] at ha
        exact ⟨_, ha, o1⟩
    have fb : ∃ s0, γ[b]? = some (some s0) ∧ s0.owned = true := by
      by_cases z : i = b
      · subst z
        exact ⟨_, e, rfl⟩
      · rw [List.getElem?_set_ne z] at hb
        exact ⟨_, hb, ot⟩
    obtain ⟨sa, ea, oa⟩ := fa
    obtain ⟨sb, eb, ob⟩ := fb
    exact R.apart a b sa sb L' ne ea eb oa ob va vb
  · obtain ⟨h1, h2⟩ := R.fr a o e
    have ne : a ≠ p := fun z => by
      have := R.fo i _ p ‹_› rfl hv
      rw [z, this] at e
      cases e
    exact k a o ne h1 h2
  · by_cases z : i = j
    · subst z
      exact R.fo i _ L' e rfl vj
    · rw [List.getElem?_set_ne z] at ej
      exact R.fo j t L' ej ot vj
section
variable {X : Cx} {e : Expr} {Ts : List (DE Ω)} {T : DE Ω}
/-- f(e, ..) of data -/
theorem pd_callP {fD : FD Ω} {E : XK} (h : PE X e (tCall (spP K W fD) [] E (upK K W Ts))) : PE X e (up K W (tKs Ts fD)) := PEc h fun σ H Q ⟨F, g, γ, q, R, t, k⟩ =>
  evK_sound Ts R t fun ds γ' g' vs H' hf le R' dvs => by
    rw [List.append_nil]
    refine ⟨fun a => match g' a with | none => H' a | some _ => none, g', ds, _, ⟨R'.sub, fun a o ea => ?_⟩, dvs, hf, fun d v g2 H2 hq le2 fr dv => ?_⟩
    · cases hg : g' a with
      | none =>
        simp only [hg] at ea
        exact ⟨ea, rfl⟩
      | some u =>
        simp only [hg] at ea
        cases ea
    · exact k d γ' v H2 g2 hq (le.tr le2) (R'.after le2 fr.sub fun a o ha hn => fr.fr a o (by simp only [hn]; exact ha)) dv
/-- f(box, e, ..) -/
def tCB' (i : Nat) (Ts : List (DE Ω)) (fD : Nat → List (Dat Ω) → (Dat Ω → Nat → Prop) → Prop) : DE Ω := fun γ q => match γ[i]? with
  | some (some (.box _ _)) => evK Ts γ fun ds γ' => (match γ'[i]? with
    | some (some (.box p m)) => fD m ds fun d m' => q d (γ'.set i (some (.box p m')))
    | _ => False)
  | _ => False
theorem pd_callBx {i : Nat} {fD : Nat → List (Dat Ω) → (Dat Ω → Nat → Prop) → Prop} {E : XK} (h : PE X e (tCall (spB K W fD) [] E (tCons (tVar i) (upK K W Ts)))) : PE X e (up K W (tCB' i Ts fD)) := PEc h fun σ H Q ⟨F, g, γ, q, R, t, k⟩ => by
  unfold tCB' at t
  split at t
  · rename_i p0 m0 e0
    obtain ⟨v, hv, rfl, gn, b0⟩ := R.sl i _ e0
    refine ⟨_, hv, evK_sound Ts R t fun ds γ' g' vs H' hf le R' dvs => ?_⟩
    show spB K W fD ((.ref p0 :: vs) ++ []) H' Q E
    rw [List.append_nil]
    split at hf
    · rename_i p m e1
      obtain ⟨v1, hv1, rfl, gn1, b1⟩ := R'.sl i _ e1
      rw [hv] at hv1
      cases hv1
      refine ⟨fun a => if a = p0 then none else (match g' a with | none => H' a | some _ => none), g', p0, m, vs, ds, _, rfl, ⟨R'.sub, fun a o ea => ?_⟩, if_pos rfl, gn1, b1, dvs, hf, fun d m' v g2 H2 hq le2 fr gp bx dv => ?_⟩
      · by_cases ha : a = p0
        · simp only [if_pos ha] at ea
          cases ea
        · simp only [if_neg ha] at ea
          cases hg : g' a with
          | none =>
            simp only [hg] at ea
            exact ⟨ea, rfl⟩
          | some u =>
            simp only [hg] at ea
            cases ea
      · exact k d _ v H2 g2 hq (le.tr le2) (R'.afterB e1 le2 fr.sub (fun a o na ha hn => fr.fr a o (by simp only [if_neg na, hn]; exact ha)) gp bx) dv
    · exact hf.elim
  · exact t.elim
/-- take -/
def tTk (i : Nat) (T : DE Ω) : DE Ω := fun γ q => match γ[i]? with
  | some (some (.box _ _)) => T γ fun d γ' => (match d, γ'[i]? with
    | .int many, some (some (.box p m)) => (m ≤ 1000000 ∧ 0 < many ∧ many ≤ 100000) ∧ ∀ r, 0 ≤ r → r < many → q (.int r) (γ'.set i (some (.box p (m + 1))))
    | _, _ => False)
  | _ => False
theorem pd_take {i : Nat} {E : XK} (h : PE X e (tCall spTk [] E (tCons (tVar i) (upK K W [T])))) : PE X e (up K W (tTk i T)) := PEc h fun σ H Q ⟨F, g, γ, q, R, t, k⟩ => by
  unfold tTk at t
  split at t
  · rename_i p0 m0 e0
    obtain ⟨v, hv, rfl, gn, b0⟩ := R.sl i _ e0
    refine ⟨_, hv, F, g, γ, _, R, t, fun d γ' y H' g' hq le R' dv => ?_⟩
    split at hq
    · rename_i d1 o1 many p m e1
      obtain ⟨v1, hv1, rfl, gn1, b1⟩ := R'.sl i _ e1
      rw [hv] at hv1
      cases hv1
      cases dv
      refine ⟨p0, m, many, rfl, b1, hq.1.1, hq.1.2.1, hq.1.2.2, fun r H2 r0 r1 bx bu => ?_⟩
      refine k _ _ _ H2 g' (hq.2 r r0 r1) le (R'.afterB e1 (.refl g') (fun a o ea => ?_) (fun a o na ha hn => ⟨bu a o na ha, hn⟩) gn1 bx) (.int r)
      have ne : a ≠ p0 := fun z => by rw [z, gn1] at ea; cases ea
      exact (R'.sub a o ea).mono (.refl g') fun o' q => bu a o' ne q
    · exact hq.elim
  · exact t.elim
end
end
end DL
set_option Elab.async false
set_option linter.all false
set_option maxRecDepth 100000
set_option maxHeartbeats 4000000
namespace DL
open PySem PySem.Spec PyProof.Rows L2 Nv
section
variable {Ω : Type} {K : PySem.W.Frag} {W : Obs Ω}
/-! ### a op b op' c, of ints -/
def dChain (h h' : Int → Int → Bool) (T U V : DE Ω) : DE Ω := fun γ q => T γ fun a γ1 => U γ1 fun b γ2 => match a, b with
  | .int i, .int j => if h i j = true then V γ2 fun c γ3 => (match c with | .int k => q (.bl (h' j k)) γ3 | _ => False) else q (.bl false) γ2
  | _, _ => False
section
variable {X : Cx} {a b c : Expr} {T U V : DE Ω} {pos : Pos}
theorem chain_up {h h' : Int → Int → Bool} : ∀ σ H Q, up K W (dChain h h' T U V) σ H Q → tChain (rI0 fun i j => .bl (h i j)) (rI0 fun i j => .bl (h' i j)) (up K W T) (up K W U) (up K W V) σ H Q := fun σ H Q ⟨F, g, γ, q, R, t, k⟩ =>
  ⟨F, g, γ, _, R, t, fun d γ1 v H1 g1 h1 le1 R1 dv => ⟨F, g1, γ1, _, R1, h1, fun e γ2 w H2 g2 h2 le2 R2 dw => by
    split at h2
    · rename_i i j
      cases dv
      cases dw
      refine ⟨i, j, rfl, rfl, _, rfl, ?_⟩
      by_cases c : h i j = true
      · rw [if_pos c] at h2
        rw [if_pos c]
        refine ⟨F, g2, γ2, _, R2, h2, fun e γ3 w H3 g3 h3 le3 R3 dw => ?_⟩
        split at h3
        · cases dw
          exact ⟨_, _, rfl, rfl, k _ γ3 _ H3 g3 h3 ((le1.tr le2).tr le3) R3 (.bl _)⟩
        · exact h3.elim
      · rw [if_neg c] at h2
        rw [if_neg c]
        exact k _ γ2 _ H2 g2 h2 (le1.tr le2) R2 (.bl _)
    · exact h2.elim⟩⟩
theorem pt_ch {op op' : CmpOp} {h h' : Int → Int → Bool} (ho : OpR X (compareOp op) (rI0 fun i j => .bl (h i j))) (ho' : OpR X (compareOp op') (rI0 fun i j => .bl (h' i j))) (ha : PE X a (up K W T)) (hb : PE X b (up K W U)) (hc : PE X c (up K W V))
    (hm : lastMarks [op, op'] [b, c] = false := by with_unfolding_all rfl) : PT X (.Compare a [op, op'] [b, c] pos) (upT K W (tB' (dChain h h' T U V))) := ptest (PTc (pt_chain ho ho' ha hb hc hm) fun _ _ _ h => h) chain_up
theorem pd_ch {op op' : CmpOp} {h h' : Int → Int → Bool} (ho : OpR X (compareOp op) (rI0 fun i j => .bl (h i j))) (ho' : OpR X (compareOp op') (rI0 fun i j => .bl (h' i j))) (ha : PE X a (up K W T)) (hb : PE X b (up K W U)) (hc : PE X c (up K W V))
    (hm : lastMarks [op, op'] [b, c] = false := by with_unfolding_all rfl) : PE X (.Compare a [op, op'] [b, c] pos) (up K W (dChain h h' T U V)) := PEc (pe_chain ho ho' ha hb hc hm) chain_up
end
/-! ### built-ins by name -/
theorem pd_cb {X : Cx} {e : Expr} {As : List (Opn Ω)} {r : List V → Hp → VK → Prop} {f : FD Ω} (hp : PE X e (tCB r (upA K W As))) (od : OpD K W r f) : PE X e (up K W (tOps As f)) := pe_ops (r := r) (PEc hp fun _ _ _ h => h) od
theorem pf_cb {X : Cx} {e : Expr} {As : List (Opn Ω)} {r : List V → Hp → VK → Prop} {f : FD Ω} (hp : PE X e (tCB r (upA K W As))) (od : OpF K W r f) : PE X e (upF K W (tOps As f)) := pf_ops (r := r) (PEc hp fun _ _ _ h => h) od
def fLen : FD Ω
  | [.lst ds], k => k (.int ds.length)
  | [.tup ds], k => k (.int ds.length)
  | [.str z], k => z.length ≤ sizeLine ∧ k (.int z.length)
  | _, _ => False
def rLenA (K : PySem.W.Frag) : List V → Hp → VK → Prop := fun xs H Q => (∃ p ys, xs = [.ref p] ∧ (SqL K H p ys ∨ SqT K H p ys) ∧ Q (.int ys.length) H) ∨ (∃ z, xs = [.str z] ∧ z.length ≤ sizeLine ∧ Q (.int z.length) H)
theorem call_lenA {X : Cx} : CallR X (.builtin "len") (rLenA X.K) := CallR.or call_len_seq call_len_str
theorem od_len : OpD K W (rLenA K) fLen := by
  intro g H vs ds k Q s p e q
  unfold fLen at e
  split at e
  · cases p with
    | cons p1 p =>
      cases p
      obtain ⟨a, xs, rfl, ha, r⟩ := p1.lst s
      exact .inl ⟨a, xs, rfl, .inl (SqL.of ha), by rw [r.length]; exact q _ _ _ _ e (.refl s) (.int _)⟩
  · cases p with
    | cons p1 p =>
      cases p
      obtain ⟨a, xs, rfl, ha, r⟩ := p1.tup s
      exact .inl ⟨a, xs, rfl, .inr ha, by rw [r.length]; exact q _ _ _ _ e (.refl s) (.int _)⟩
  · cases p with | cons p1 p => cases p; cases p1.str; exact .inr ⟨_, rfl, e.1, q _ _ _ _ e.2 (.refl s) (.int _)⟩
  · exact e.elim
def fMax2 : FD Ω
  | [.int i, .int j], k => k (.int (if j > i then j else i))
  | _, _ => False
def fMin2 : FD Ω
  | [.int i, .int j], k => k (.int (if j < i then j else i))
  | _, _ => False
def fAbs : FD Ω
  | [.int i], k => k (.int (if i < 0 then -i else i))
  | _, _ => False
theorem od_max2 : OpD K W (fun xs H Q => ∃ i j, xs = [.int i, .int j] ∧ Q (.int (if j > i then j else i)) H) fMax2 := by
  intro g H vs ds k Q s p e q
  unfold fMax2 at e
  split at e
  · cases p with | cons p1 p => cases p with | cons p2 p => cases p; cases p1.int; cases p2.int; exact ⟨_, _, rfl, q _ _ _ _ e (.refl s) (.int _)⟩
  · exact e.elim
theorem od_min2 : OpD K W (fun xs H Q => ∃ i j, xs = [.int i, .int j] ∧ Q (.int (if j < i then j else i)) H) fMin2 := by
  intro g H vs ds k Q s p e q
  unfold fMin2 at e
  split at e
  · cases p with | cons p1 p => cases p with | cons p2 p => cases p; cases p1.int; cases p2.int; exact ⟨_, _, rfl, q _ _ _ _ e (.refl s) (.int _)⟩
  · exact e.elim
theorem od_abs : OpD K W (fun xs H Q => ∃ i, xs = [.int i] ∧ Q (.int (if i < 0 then -i else i)) H) fAbs := by
  intro g H vs ds k Q s p e q
  unfold fAbs at e
  split at e
  · cases p with | cons p1 p => cases p; cases p1.int; exact ⟨_, rfl, q _ _ _ _ e (.refl s) (.int _)⟩
  · exact e.elim
def fInt : FD Ω
  | [.int i], k => k (.int i)
  | [.bl b], k => k (.int (if b then 1 else 0))
  | _, _ => False
theorem od_int : OpD K W (fun xs H Q => (∃ i, xs = [.int i] ∧ Q (.int i) H) ∨ ∃ k, xs = [.bl k] ∧ Q (.int (if k then 1 else 0)) H) fInt := by
  intro g H vs ds k Q s p e q
  unfold fInt at e
  split at e
  · cases p with | cons p1 p => cases p; cases p1.int; exact .inl ⟨_, rfl, q _ _ _ _ e (.refl s) (.int _)⟩
  · cases p with | cons p1 p => cases p; cases p1.bl; exact .inr ⟨_, rfl, q _ _ _ _ e (.refl s) (.int _)⟩
  · exact e.elim
def fStr : FD Ω
  | [.int i], k => i.natAbs.log2 < 1920 ∧ k (.str (Str.ofString (toString i)))
  | _, _ => False
theorem od_str : OpD K W (fun xs H Q => ∃ i, xs = [.int i] ∧ i.natAbs.log2 < 1920 ∧ Q (.str (Str.ofString (toString i))) H) fStr := by
  intro g H vs ds k Q s p e q
  unfold fStr at e
  split at e
  · cases p with | cons p1 p => cases p; cases p1.int; exact ⟨_, rfl, e.1, q _ _ _ _ e.2 (.refl s) (.str _)⟩
  · exact e.elim
theorem call_str_i {X : Cx} : CallR X (.type "str") (fun xs H Q => ∃ i, xs = [.int i] ∧ i.natAbs.log2 < 1920 ∧ Q (.str (Str.ofString (toString i))) H) := call_str_int
/-- list(x) -/
def fListOf : FD Ω
  | [.lst ds], k => k (.lst ds)
  | [.tup ds], k => k (.lst ds)
  | _, _ => False
def rListOf (K : PySem.W.Frag) : List V → Hp → VK → Prop := fun xs H Q => ∃ p ys, xs = [.ref p] ∧ (SqL K H p ys ∨ SqT K H p ys) ∧ ∀ l, H l = none → Q (.ref l) (upd H l (.lst ys))
theorem call_listOf {X : Cx} : CallR X (.type "list") (rListOf X.K) := call_list_of
theorem of_list : OpF K W (rListOf K) fListOf := by
  intro g H vs ds k Q s p e q
  unfold fListOf at e
  split at e
  · cases p with
    | cons p1 p =>
      cases p
      obtain ⟨a, xs, rfl, ha, r⟩ := p1.lst s
      exact ⟨a, xs, rfl, .inl (SqL.of ha), fun l n => q _ _ _ _ _ e (.refl s) n r⟩
  · cases p with
    | cons p1 p =>
      cases p
      obtain ⟨a, xs, rfl, ha, r⟩ := p1.tup s
      exact ⟨a, xs, rfl, .inr ha, fun l n => q _ _ _ _ _ e (.refl s) n r⟩
  · exact e.elim
/-- tuple(x) -/
def fTupOf : FD Ω
  | [.lst ds], k => k (.tup ds)
  | [.tup ds], k => k (.tup ds)
  | _, _ => False
def rTupOf (K : PySem.W.Frag) : List V → Hp → VK → Prop := fun xs H Q => ∃ p ys, xs = [.ref p] ∧ ((SqL K H p ys ∧ ∀ l, H l = none → Q (.ref l) (upd H l (.tup ys))) ∨ (SqT K H p ys ∧ Q (.ref p) H))
theorem call_tupOf {X : Cx} : CallR X (.type "tuple") (rTupOf X.K) := call_tuple_of
theorem od_tup : OpD K W (rTupOf K) fTupOf := by
  intro g H vs ds k Q s p e q
  unfold fTupOf at e
  split at e
  · cases p with
    | cons p1 p =>
      cases p
      obtain ⟨a, xs, rfl, ha, r⟩ := p1.lst s
      exact ⟨a, xs, rfl, .inl ⟨SqL.of ha, fun l n => fin_new s q e n fun g' le h => .tup h (r.more le)⟩⟩
  · cases p with
    | cons p1 p =>
      cases p
      cases p1 with
      | dat p1 =>
        obtain ⟨a, xs, e1, ha, r⟩ := (PV.dat (H := H) p1).tup s
        subst e1
        exact ⟨a, xs, rfl, .inr ⟨ha, q _ _ _ _ e (.refl s) p1⟩⟩
  · exact e.elim
/-- all(x), any(x): a list of bools -/
def fAll (any : Bool) : FD Ω
  | [.lst ds], k => ∃ bs : List Bool, ds = bs.map Dat.bl ∧ k (.bl (if any then bs.any id else bs.all id))
  | _, _ => False
theorem dvs_bl {g : Gh Ω} : ∀ {vs : List V} (bs : List Bool), DVs K g vs (bs.map Dat.bl) → vs = bs.map V.bl
  | _, [], h => by
    cases h
    rfl
  | _, b :: bs, h => by
    cases h with
    | cons h r =>
      cases h
      rw [dvs_bl bs r]
      rfl
theorem od_all : OpD K W (rAll K) (fAll false) := by
  intro g H vs ds k Q s p e q
  unfold fAll at e
  split at e
  · obtain ⟨bs, rfl, e⟩ := e
    cases p with
    | cons p1 p =>
      cases p
      obtain ⟨a, xs, rfl, ha, r⟩ := p1.lst s
      cases dvs_bl bs r
      exact ⟨a, bs, rfl, SqL.of ha, q _ _ _ _ e (.refl s) (.bl _)⟩
  · exact e.elim
theorem od_any : OpD K W (rAny K) (fAll true) := by
  intro g H vs ds k Q s p e q
  unfold fAll at e
  split at e
  · obtain ⟨bs, rfl, e⟩ := e
    cases p with
    | cons p1 p =>
      cases p
      obtain ⟨a, xs, rfl, ha, r⟩ := p1.lst s
      cases dvs_bl bs r
      exact ⟨a, bs, rfl, SqL.of ha, q _ _ _ _ e (.refl s) (.bl _)⟩
  · exact e.elim
/-! ### texts -/
def strsOf : List (Dat Ω) → Option (List Str)
  | [] => some []
  | .str z :: r => (strsOf r).map (z :: ·)
  | _ => none
theorem dvs_str {g : Gh Ω} : ∀ {vs : List V} {ds : List (Dat Ω)} {bs : List Str}, DVs K g vs ds → strsOf ds = some bs → vs = bs.map V.str
  | _, _, bs, .nil, e => by
    cases e
    rfl
  | _, _, bs, .cons (d := d) (ds := ds) h r, e => by
    cases h with
    | str b =>
      unfold strsOf at e
      cases h2 : strsOf ds with
      | none => rw [h2] at e; cases e
      | some cs =>
        rw [h2] at e
        cases e
        rw [dvs_str r h2]
        rfl
    | _ => cases e
def fJoin : FD Ω
  | [.str a, .lst ds], k => ∃ ys, strsOf ds = some ys ∧ (ys.map (·.length)).sum + ys.length * a.length ≤ 16777216 ∧ k (.str (Txt.join a ys))
  | _, _ => False
/-- a method of a text, one argument -/
def tMS (T : DE Ω) (As : List (Opn Ω)) (f : FD Ω) : DE Ω := fun γ q => T γ fun a γ1 => match a with
  | .str z => evL As γ1 fun os γ2 => late As os γ2 fun ds => f (.str z :: ds) fun r => q r γ2
  | _ => False
def rcv (r : V → List V → Hp → VK → Prop) : List V → Hp → VK → Prop := fun vs H Q => match vs with
  | x :: xs => r x xs H Q
  | _ => False
theorem pd_m1 {X : Cx} {e : Expr} {T : DE Ω} {B : Opn Ω} {r : V → List V → Hp → VK → Prop} {f : FD Ω} (h : PE X e (tM1 r (up K W T) (upO K W B))) (od : OpD K W (rcv r) f) : PE X e (up K W (tMS T [B] f)) := PEc h fun σ H Q ⟨F, g, γ, q, R, t, k⟩ =>
  ⟨F, g, γ, _, R, t, fun d γ1 v H1 g1 h1 le1 R1 dv => by
    split at h1
    · rename_i z
      cases dv
      refine ⟨⟨z, rfl⟩, ?_⟩
      have := ev_sound [B] R1 h1 (Q := fun vs H' => r (.str z) vs H' Q) fun os γ' g' vs H' l le R' tm => by
        obtain ⟨ds, hf, pv⟩ := late_sound R' tm l
        exact od g' H' (.str z :: vs) (.str z :: ds) _ Q R'.sub (.cons (.dat (.str z)) pv) hf fun y w g2 H2 hz G dv => k y γ' w H2 g2 hz ((le1.tr le).tr G.le) (R'.grow G) dv
      exact this
    · exact h1.elim⟩
theorem pd_bmS {X : Cx} {e : Expr} {T : DE Ω} {As : List (Opn Ω)} {r : V → List V → Hp → VK → Prop} {f : FD Ω} (h : PE X e (tBM X.K "str" r (up K W T) (upA K W As))) (od : OpD K W (rcv r) f) : PE X e (up K W (tMS T As f)) := PEc h fun σ H Q ⟨F, g, γ, q, R, t, k⟩ =>
  ⟨F, g, γ, _, R, t, fun d γ1 v H1 g1 h1 le1 R1 dv => by
    split at h1
    · rename_i z
      cases dv
      refine ⟨rfl, ?_⟩
      exact ev_sound As R1 h1 (Q := fun vs H' => r (.str z) vs H' Q) fun os γ' g' vs H' l le R' tm => by
        obtain ⟨ds, hf, pv⟩ := late_sound R' tm l
        exact od g' H' (.str z :: vs) (.str z :: ds) _ Q R'.sub (.cons (.dat (.str z)) pv) hf fun y w g2 H2 hz G dv => k y γ' w H2 g2 hz ((le1.tr le).tr G.le) (R'.grow G) dv
    · exact h1.elim⟩
theorem od_join : OpD K W (rcv fun x xs H Q => ∃ a p, ∃ ys : List Str, x = .str a ∧ xs = [.ref p] ∧ (SqL K H p (ys.map V.str) ∨ SqT K H p (ys.map V.str)) ∧ (ys.map (·.length)).sum + ys.length * a.length ≤ 16777216 ∧ Q (.str (Txt.join a ys)) H) fJoin := by
  intro g H vs ds k Q s p e q
  unfold fJoin at e
  split at e
  · obtain ⟨ys, hy, e⟩ := e
    cases p with
    | cons p1 p =>
      cases p with
      | cons p2 p =>
        cases p
        cases p1.str
        obtain ⟨a, xs, rfl, ha, r⟩ := p2.lst s
        cases dvs_str r hy
        exact ⟨_, a, ys, rfl, rfl, .inl (SqL.of ha), e.1, q _ _ _ _ e.2 (.refl s) (.str _)⟩
  · exact e.elim
/-- s.index(t): it stands there -/
def fIndex : FD Ω
  | [.str a, .str b], k => ∃ (i : Nat) (rest : List Nat), Builtin.Str.occurrences a b 0 a.length 1 = i :: rest ∧ k (.int (i : Int))
  | _, _ => False
theorem od_index : OpD K W (rcv fun x xs H Q => ∃ a b i rest, x = .str a ∧ xs = [.str b] ∧ Builtin.Str.occurrences a b 0 a.length 1 = i :: rest ∧ Q (.int (i : Nat)) H) fIndex := by
  intro g H vs ds k Q s p e q
  unfold fIndex at e
  split at e
  · obtain ⟨i, rest, ho, e⟩ := e
    cases p with | cons p1 p => cases p with | cons p2 p => cases p; cases p1.str; cases p2.str; exact ⟨_, _, i, rest, rfl, rfl, ho, q _ _ _ _ e (.refl s) (.int _)⟩
  · exact e.elim
/-! ### comprehensions, as written -/
theorem PTsc {X : Cx} {e : List Expr} {t t' : TT} (h : PTs X e t) (k : ∀ σ H Q, t' σ H Q → t σ H Q) : PTs X e t' := ⟨fun pins s σ H Q I q => h.run pins s σ H Q I (k σ H Q q)⟩
def dYes : DT Ω := fun γ q => q true γ
theorem pts0 {X : Cx} : PTs X [] (upT K W dYes) := PTsc pts_nil fun σ H Q ⟨F, g, γ, q, R, t, k⟩ => k true γ H g t (.refl g) R
theorem pts1 {X : Cx} {c : Expr} {t : DT Ω} (h : PT X c (upT K W t)) : PTs X [c] (upT K W t) := pts_one h
section
variable {X : Cx} {elt tg iter : Expr} {ifs : List Expr} {scope : Scope} {own : List (Str × Nat)} {pos spos py : Pos} {TI : DI Ω} {G : DG Ω} {t : DT Ω} {T : DE Ω} {ix : List Nat} {i : Nat} {y : Str}
theorem pf_lc (hc : X.calm = true) (hN : X.N.Nodup) (hi : PI X tg iter (upI K W TI)) (ok : BlkOk X.N X.env.scope scope own)
    (hg : ∀ (s : Shared) (H : Hp) (C : Addr) (cl : List (Str × Addr)) (fp : List Addr), PG (X.blk s H scope (compEnvC scope cl C X.env) fp) tg (upG K W ix G)) (ht : ∀ (s : Shared) (H : Hp) (C : Addr) (cl : List (Str × Addr)) (fp : List Addr), PTs (X.blk s H scope (compEnvC scope cl C X.env) fp) ifs (upT K W t))
    (he : ∀ (s : Shared) (H : Hp) (C : Addr) (cl : List (Str × Addr)) (fp : List Addr), PE (X.blk s H scope (compEnvC scope cl C X.env) fp) elt (up K W T)) (hin : ∀ i ∈ ix, i ∈ own.map (·.2) := by decide) (hs : ∀ x, foldedSetIterable iter X.env x = pure x := by intro _; rfl) :
    PE X (.ListComp elt [⟨tg, iter, ifs, 0⟩] scope pos) (upF K W (dComp (own.map (·.2)) TI G t T)) := PEc (pe_lc hc hN hi ok hg ht he hs) (lc_up hin)
theorem ds_setLc (hc : X.calm = true) (hN : X.N.Nodup) (hy : X.N[i]? = some y) (hyl : X.env.scope.names.lookup y = some .local)
    (hsw : swapsWith (.ListComp elt [⟨tg, iter, ifs, 0⟩] scope pos) (some (.Name y py)) spos.line X.env = pure true) (hi : PI X tg iter (upI K W TI)) (ok : BlkOk X.N X.env.scope scope own)
    (hg : ∀ (s : Shared) (H : Hp) (C : Addr) (cl : List (Str × Addr)) (fp : List Addr), PG (X.blk s H scope (compEnvC scope cl C X.env) fp) tg (upG K W ix G)) (ht : ∀ (s : Shared) (H : Hp) (C : Addr) (cl : List (Str × Addr)) (fp : List Addr), PTs (X.blk s H scope (compEnvC scope cl C X.env) fp) ifs (upT K W t))
    (he : ∀ (s : Shared) (H : Hp) (C : Addr) (cl : List (Str × Addr)) (fp : List Addr), PE (X.blk s H scope (compEnvC scope cl C X.env) fp) elt (up K W T)) (hin : ∀ i ∈ ix, i ∈ own.map (·.2) := by decide) (hs : ∀ x, foldedSetIterable iter X.env x = pure x := by intro _; rfl) :
    PS X (.Assign [.Name y py] (.ListComp elt [⟨tg, iter, ifs, 0⟩] scope pos) spos) (tAsg (upF K W (dComp (own.map (·.2)) TI G t T)) (gName i)) := PSc (ps_setLc hc hN hy hyl hsw hi ok hg ht he hs) fun D σ H h => lc_up hin σ H _ h
end
/-- upF as up, in a store -/
theorem asg_up {T : DE Ω} {g : TG} {D : Ends} {σ : L2.St} {H : Hp} (h : tAsg (up K W T) g D σ H) : tAsg (upF K W T) g D σ H := by
  obtain ⟨F, g0, γ, q, R, t, k⟩ := h
  exact ⟨F, g0, γ, q, R, t, fun zs γ' ws L H1 g1 hq le R1 n r => by
    have G2 := Grow.dat (p := L) (o := .lst ws) R1.sub n
    exact k _ γ' _ _ _ hq (le.tr G2.le) (R1.grow G2) (.lst gup_same (r.more G2.le))⟩
theorem ps_fd {X : Cx} {st : Stmt} {T : DE Ω} {g : TG} (h : PS X st (tAsg (upF K W T) g)) : PS X st (tAsg (up K W T) g) := PSc h fun D σ H q => asg_up q
end
end DL
set_option Elab.async false
set_option linter.all false
set_option maxRecDepth 100000
set_option maxHeartbeats 4000000
namespace DL
open PySem PySem.Spec PyProof.Rows L2 Nv
section
variable {Ω : Type}
/-- a comprehension whose turns leave the state as it is -/
theorem dl_fm {ds : List (Dat Ω)} {γ1 γ0 : Gam Ω} {vs : List Nat} {G : DG Ω} {t : DT Ω} {T : DE Ω} {q : Dat Ω → Gam Ω → Prop} (f : Dat Ω → Option (Dat Ω)) (h0 : wipeG γ1 vs = γ0) (hl : ds.length ≤ sizeLine)
    (turn : ∀ (i : Nat) (d : Dat Ω), ds[i]? = some d → ∀ (acc : List (Dat Ω)) (R : List (Dat Ω) → Gam Ω → Prop), (∀ y, f d = some y → acc.length < sizeLine ∧ R (acc ++ [y]) γ0) → (f d = none → R acc γ0) →
      G d γ0 fun γ2 => t γ2 fun b γ3 => if b = true then T γ3 fun y γ4 => acc.length < sizeLine ∧ R (acc ++ [y]) (wipeG γ4 vs) else R acc (wipeG γ3 vs)) (hq : q (.lst (ds.filterMap f)) γ0) :
    compD vs G t T q ds γ1 := by
  have step : ∀ (i : Nat) (d : Dat Ω), ds[i]? = some d → (ds.take (i + 1)).filterMap f = (ds.take i).filterMap f ++ (match f d with | some y => [y] | none => []) := fun i d h => by
    rw [List.take_add_one, h, List.filterMap_append]
    congr 1
    simp only [Option.toList_some, List.filterMap_cons, List.filterMap_nil]
    cases f d <;> rfl
  refine ⟨⟨fun i acc γ => γ = γ0 ∧ acc = (ds.take i).filterMap f, ⟨h0, rfl⟩, fun i d acc γ hd ⟨e1, e2⟩ => ?_, fun acc γ ⟨e1, e2⟩ => ?_⟩⟩
  · subst e1
    have hi : i < ds.length := (List.getElem?_eq_some_iff.mp hd).1
    have la : acc.length < sizeLine := by
      have h1 : acc.length ≤ (ds.take i).length := by rw [e2]; exact List.length_filterMap_le _ _
      rw [List.length_take] at h1
      omega
    refine turn i d hd acc (fun acc' γ' => γ' = γ ∧ acc' = (ds.take (i + 1)).filterMap f) (fun y hy => ⟨la, rfl, ?_⟩) fun hn => ⟨rfl, ?_⟩
    · rw [step i d hd, hy, e2]
    · rw [step i d hd, hn, e2, List.append_nil]
  · subst e1 e2
    rw [List.take_length]
    exact hq
/-- .. that keeps all -/
theorem dl_map {ds : List (Dat Ω)} {γ1 γ0 : Gam Ω} {vs : List Nat} {G : DG Ω} {T : DE Ω} {q : Dat Ω → Gam Ω → Prop} (f : Dat Ω → Dat Ω) (h0 : wipeG γ1 vs = γ0) (hl : ds.length ≤ sizeLine)
    (turn : ∀ (i : Nat) (d : Dat Ω), ds[i]? = some d → ∀ (R : Dat Ω → Gam Ω → Prop), R (f d) γ0 → G d γ0 fun γ2 => T γ2 fun y γ4 => R y (wipeG γ4 vs)) (mono : ∀ (d : Dat Ω) γ (P Q : Gam Ω → Prop), (∀ γ, P γ → Q γ) → G d γ P → G d γ Q := by intro _ _ _ _ h x; exact h _ x) (hq : q (.lst (ds.map f)) γ0) :
    compD vs G dYes T q ds γ1 := by
  refine dl_fm (fun d => some (f d)) h0 hl (fun i d hd acc R k _ => ?_) (by
    have : ds.filterMap (fun d => some (f d)) = ds.map f := by rw [List.filterMap_eq_map']
    rw [this]
    exact hq)
  refine mono d γ0 _ _ (fun γ h => ?_) (turn i d hd (fun y γ => acc.length < sizeLine ∧ R (acc ++ [y]) γ) (k _ rfl))
  exact h
theorem pd_dnew {K : PySem.W.Frag} {W : Obs Ω} {X : Cx} {pos : Pos} : PE X (.Dict [] [] pos) (up K W (tC' (.dK [] []))) := PEc pe_dnewK fun σ H Q ⟨F, g, γ, q, R, t, k⟩ => fun d n => by
  have G := Grow.dat (p := d) (o := .dK []) R.sub n
  exact k _ γ _ _ _ t G.le (R.grow G) (.dK (xs := []) gup_same rfl .nil)
end
end DL
set_option Elab.async false
set_option linter.all false
set_option maxRecDepth 100000
set_option maxHeartbeats 4000000
namespace DL
open PySem PySem.Spec PyProof.Rows L2 Nv
/-! What an expression comes to, its continuation a letter: so that the kernel never looks into the rest of a program. -/
section
variable {Ω : Type} {T U V : DE Ω} {Ts : List (DE Ω)} {As : List (Opn Ω)} {f : FD Ω} {γ γ1 γ2 γ' : Gam Ω} {d e z : Dat Ω} {ds : List (Dat Ω)} {i j : Nat}
def Ev (T : DE Ω) (γ : Gam Ω) (d : Dat Ω) (γ' : Gam Ω) : Prop := ∀ q : Dat Ω → Gam Ω → Prop, q d γ' → T γ q
def EvK (Ts : List (DE Ω)) (γ : Gam Ω) (ds : List (Dat Ω)) (γ' : Gam Ω) : Prop := ∀ q : List (Dat Ω) → Gam Ω → Prop, q ds γ' → evK Ts γ q
def EvA (As : List (Opn Ω)) (γ : Gam Ω) (ds : List (Dat Ω)) : Prop := ∀ q : List (Dat Ω) → Gam Ω → Prop, q ds γ → evL As γ fun os γ' => late As os γ' fun ds => q ds γ'
def EvT (t : DT Ω) (γ : Gam Ω) (b : Bool) (γ' : Gam Ω) : Prop := ∀ q : Bool → Gam Ω → Prop, q b γ' → t γ q
def FEv (f : FD Ω) (ds : List (Dat Ω)) (z : Dat Ω) : Prop := ∀ k : Dat Ω → Prop, k z → f ds k
theorem ev_c : Ev (tC' d) γ d γ := fun q h => h
theorem ev_n (h : γ[i]? = some (some (.dat d))) : Ev (tN i) γ d γ := fun q k => by
  unfold tN
  rw [h]
  exact k
theorem ev_own {ds : List (Dat Ω)} (h : γ[i]? = some (some (.own ds))) (h2 : γ.set i (some (.dat (.lst ds))) = γ') : Ev (tN i) γ (.lst ds) γ' := fun q k => by
  unfold tN
  rw [h]
  simp only [h2]
  exact k
theorem evk0 : EvK ([] : List (DE Ω)) γ [] γ := fun q h => h
theorem evk1 (h : Ev T γ d γ1) (k : EvK Ts γ1 ds γ2) : EvK (T :: Ts) γ (d :: ds) γ2 := fun q r => h _ (k _ r)
theorem ev_ks (h : EvK Ts γ ds γ') (k : FEv f ds z) : Ev (tKs Ts f) γ z γ' := fun q r => h _ (k _ r)
theorem eva0 : EvA ([] : List (Opn Ω)) γ [] := fun q h => h
theorem evL_mono : ∀ (As : List (Opn Ω)) {γ : Gam Ω} {r r' : List (Option (Dat Ω)) → Gam Ω → Prop}, (∀ o ∈ As, ∀ T, o = .ex T → ∀ γ (q q' : Dat Ω → Gam Ω → Prop), (∀ d γ, q d γ → q' d γ) → T γ q → T γ q') → (∀ os γ, r os γ → r' os γ) → evL As γ r → evL As γ r'
  | [], γ, r, r', _, h, e => h _ _ e
  | .nm i :: As, γ, r, r', m, h, e => by
    unfold evL at e ⊢
    split at e
    · exact evL_mono As (fun o ho => m o (List.mem_cons_of_mem _ ho)) (fun os γ' q => h _ _ q) e
    · exact e.elim
  | .ex T :: As, γ, r, r', m, h, e => by
    unfold evL at e ⊢
    exact m _ List.mem_cons_self T rfl γ _ _ (fun d γ1 q => evL_mono As (fun o ho => m o (List.mem_cons_of_mem _ ho)) (fun os γ' q => h _ _ q) q) e
theorem eva_nm (h : sd γ[i]? = some d) (k : EvA As γ ds) : EvA (.nm i :: As) γ (d :: ds) := fun q r => by
  unfold evL
  have hs : ∃ s, γ[i]? = some (some s) := by
    cases e : γ[i]? with
    | none => rw [e] at h; cases h
    | some o =>
      cases o with
      | none => rw [e] at h; cases h
      | some s => exact ⟨s, rfl⟩
  obtain ⟨s, hs⟩ := hs
  rw [hs]
  show evL As γ fun os γ' => late (.nm i :: As) (none :: os) γ' fun ds => q ds γ'
  have := k (fun ds' γ' => ds' = ds ∧ γ' = γ) ⟨rfl, rfl⟩
  exact (k fun ds' γ' => (match sd γ'[i]? with | some d => q (d :: ds') γ' | none => False)) (by simp only [h]; exact r) |> fun z => by
    have e : (fun (os : List (Option (Dat Ω))) (γ' : Gam Ω) => late As os γ' fun ds' => (match sd γ'[i]? with | some d => q (d :: ds') γ' | none => False)) = fun os γ' => late (.nm i :: As) (none :: os) γ' fun ds => q ds γ' := by
      funext os γ'
      conv => rhs; unfold late
      cases hh : sd γ'[i]? with
      | some d => rfl
      | none =>
        simp only
        refine propext ⟨fun z => ?_, fun z => z.elim⟩
        have lf : ∀ (As : List (Opn Ω)) (os : List (Option (Dat Ω))) (γ : Gam Ω), (late As os γ fun _ => False) → False := by
          intro As
          induction As with
          | nil =>
            intro os γ h
            cases os with
            | nil => exact h
            | cons _ _ => exact h
          | cons o As ih =>
            intro os γ h
            cases os with
            | nil => cases o <;> exact h
            | cons p os =>
              cases o with
              | nm j =>
                unfold late at h
                split at h
                · exact ih _ _ h
                · exact h
              | ex T =>
                cases p with
                | none => exact h
                | some d =>
                  unfold late at h
                  exact ih _ _ h
        exact lf _ _ _ z
    rw [e] at z
    exact z
theorem eva_ex (h : Ev T γ d γ) (k : EvA As γ ds) : EvA (.ex T :: As) γ (d :: ds) := fun q r => by
  unfold evL
  refine h _ ?_
  have z := k (fun ds' γ' => q (d :: ds') γ') r
  exact z
theorem ev_ops (h : EvA As γ ds) (k : FEv f ds z) : Ev (tOps As f) γ z γ := fun q r => h (fun ds γ' => f ds fun z => q z γ') (k _ r)
theorem evt_b (h : Ev T γ (.bl true) γ') : EvT (tB' T) γ true γ' := fun q r => h _ r
theorem evt_v {b : Bool} (h : Ev T γ (.bl b) γ') : EvT (tB' T) γ b γ' := fun q r => h _ r
theorem evt_not {t : DT Ω} {b : Bool} (h : EvT t γ b γ') : EvT (dNot t) γ (!b) γ' := fun q r => h _ r
theorem evt_and {t u : DT Ω} {b c : Bool} (h : EvT t γ b γ1) (k : b = true → EvT u γ1 c γ') (k0 : b = false → c = false ∧ γ1 = γ') : EvT (dAnd t u) γ c γ' := fun q r => h _ (by
  cases b with
  | true => exact k rfl _ r
  | false =>
    obtain ⟨e1, e2⟩ := k0 rfl
    subst e1 e2
    exact r)
theorem evt_or {t u : DT Ω} {b c : Bool} (h : EvT t γ b γ1) (k : b = false → EvT u γ1 c γ') (k0 : b = true → c = true ∧ γ1 = γ') : EvT (dOr t u) γ c γ' := fun q r => h _ (by
  cases b with
  | false => exact k rfl _ r
  | true =>
    obtain ⟨e1, e2⟩ := k0 rfl
    subst e1 e2
    exact r)
theorem ev_ch {h h' : Int → Int → Bool} {i j k : Int} (a : Ev T γ (.int i) γ) (b : Ev U γ (.int j) γ) (c : Ev V γ (.int k) γ) : Ev (dChain h h' T U V) γ (.bl (h i j && h' j k)) γ := fun q r => a _ (b _ (by
  show if h i j = true then _ else _
  cases e : h i j with
  | true =>
    rw [if_pos rfl]
    rw [e, Bool.true_and] at r
    exact c _ r
  | false =>
    rw [if_neg (by decide)]
    rw [e, Bool.false_and] at r
    exact r))
theorem ev_ifT {t : DT Ω} (h : EvT t γ true γ1) (k : Ev T γ1 d γ') : Ev (dIf t T U) γ d γ' := fun q r => h _ (by rw [if_pos rfl]; exact k _ r)
theorem ev_ifF {t : DT Ω} (h : EvT t γ false γ1) (k : Ev U γ1 d γ') : Ev (dIf t T U) γ d γ' := fun q r => h _ (by rw [if_neg (by decide)]; exact k _ r)
/-! statements -/
variable {S S2 : DS Ω} {D : EndsD Ω}
def Es (S : DS Ω) (γ γ' : Gam Ω) : Prop := ∀ D : EndsD Ω, D.nx γ' → S D γ
theorem sq (h : Es S γ γ') (k : S2 D γ') : dSeq S S2 D γ := h _ k
theorem es_set (h : Ev T γ d γ1) (e : γ1.set i (some (.dat d)) = γ') : Es (dSet i T) γ γ' := fun D r => h _ (by rw [e]; exact r)
theorem es_setF (h : Ev T γ (.lst ds) γ1) (e : γ1.set i (some (.own ds)) = γ') : Es (dSetF i T) γ γ' := fun D r => h _ (by show D.nx (γ1.set i (some (.own ds))); rw [e]; exact r)
theorem es_app {es : List (Dat Ω)} (h0 : γ[i]? = some (some (.own es))) (h : Ev T γ d γ) (hl : es.length < sizeLine) (e : γ.set i (some (.own (es ++ [d]))) = γ') : Es (dApp i T) γ γ' := fun D r => by
  unfold dApp
  rw [h0]
  refine h _ ?_
  show match γ[i]? with | some (some (.own ds)) => ds.length < sizeLine ∧ D.nx (γ.set i (some (.own (ds ++ [d])))) | _ => False
  rw [h0]
  exact ⟨hl, by rw [e]; exact r⟩
theorem es_par (h : Ev T γ d γ1) (k : Ev U γ1 e γ2) (eq : (γ2.set i (some (.dat d))).set j (some (.dat e)) = γ') : Es (dPar i j T U) γ γ' := fun D r => h _ (k _ (by rw [eq]; exact r))
theorem es_asg {G : DG Ω} (h : Ev T γ d γ1) (k : ∀ q : Gam Ω → Prop, q γ' → G d γ1 q) : Es (dAsg T G) γ γ' := fun D r => h _ (k _ r)
theorem es_drop (h : Ev T γ d γ') : Es (dDrop T) γ γ' := fun D r => h _ r
theorem rd_ret (h : Ev T γ d γ') (k : D.rt d γ') : dRet T D γ := h _ k
theorem rd_if {t : DT Ω} {b : Bool} (h : EvT t γ b γ1) (k1 : b = true → S D γ1) (k2 : b = false → S2 D γ1) : dIfS t S S2 D γ := h _ (by
  cases b with
  | true => rw [if_pos rfl]; exact k1 rfl
  | false => rw [if_neg (by decide)]; exact k2 rfl)
/-- an if whose way through comes to the rest as well -/
theorem sq_if {t : DT Ω} {b : Bool} {S3 : DS Ω} (h : EvT t γ b γ1) (k1 : b = true → S { D with nx := S3 D } γ1) (k2 : b = false → S2 { D with nx := S3 D } γ1) : dSeq (dIfS t S S2) S3 D γ := rd_if h k1 k2
theorem sq_next (k : S2 D γ) : dNext { D with nx := S2 D } γ := k
/-- take, into a name -/
theorem sq_take {i k : Nat} {p : Addr} {m : Nat} {many : Int} (h : γ[i]? = some (some (.box p m))) (h1 : Ev T γ (.int many) γ) (c : m ≤ 1000000 ∧ 0 < many ∧ many ≤ 100000)
    (go : ∀ r, 0 ≤ r → r < many → S2 D ((γ.set i (some (.box p (m + 1)))).set k (some (.dat (.int r))))) : dSeq (dSet k (tTk i T)) S2 D γ := by
  show tTk i T γ fun d γ' => S2 D (γ'.set k (some (.dat d)))
  unfold tTk
  rw [h]
  refine h1 _ ?_
  show match (Dat.int many : Dat Ω), γ[i]? with | .int many, some (some (.box p m)) => _ | _, _ => False
  rw [h]
  exact ⟨c, fun r r0 r1 => go r r0 r1⟩
/-- take, anywhere -/
theorem ap_take {i : Nat} {p : Addr} {m : Nat} {many : Int} {q : Dat Ω → Gam Ω → Prop} (h : γ[i]? = some (some (.box p m))) (h1 : Ev T γ (.int many) γ) (c : m ≤ 1000000 ∧ 0 < many ∧ many ≤ 100000)
    (go : ∀ r, 0 ≤ r → r < many → q (.int r) (γ.set i (some (.box p (m + 1))))) : tTk i T γ q := by
  unfold tTk
  rw [h]
  refine h1 _ ?_
  show match (Dat.int many : Dat Ω), γ[i]? with | .int many, some (some (.box p m)) => _ | _, _ => False
  rw [h]
  exact ⟨c, fun r r0 r1 => go r r0 r1⟩
theorem ev_use {q : Dat Ω → Gam Ω → Prop} (h : Ev T γ d γ') (k : q d γ') : T γ q := h q k
theorem fe_use {q : Dat Ω → Prop} (h : FEv f ds z) (k : q z) : f ds q := h q k
theorem nd_ops2 {q : Dat Ω → Gam Ω → Prop} (h : T γ fun a γ1 => U γ1 fun b γ2 => f [a, b] fun z => q z γ2) : tOps [.ex T, .ex U] f γ q := h
theorem nd_ks1 {q : Dat Ω → Gam Ω → Prop} (h : T γ fun a γ1 => f [a] fun z => q z γ1) : tKs [T] f γ q := h
theorem nd_opsN {q : Dat Ω → Gam Ω → Prop} {s : Sl Ω} (h0 : γ[i]? = some (some s)) (mono : ∀ (p p' : Dat Ω → Gam Ω → Prop), (∀ d γ, p d γ → p' d γ) → T γ p → T γ p') (h : T γ fun a γ1 => ∃ d, sd γ1[i]? = some d ∧ f [d, a] fun z => q z γ1) : tOps [.nm i, .ex T] f γ q := by
  show evL [.nm i, .ex T] γ _
  unfold evL
  rw [h0]
  refine mono _ _ (fun a γ1 ⟨d, e, z⟩ => ?_) h
  show match sd γ1[i]? with | some d => _ | none => False
  rw [e]
  exact z
theorem nd_ks2 {q : Dat Ω → Gam Ω → Prop} (h : T γ fun a γ1 => U γ1 fun b γ2 => f [a, b] fun z => q z γ2) : tKs [T, U] f γ q := h
theorem sq_setN (h : T γ fun d γ' => S2 D (γ'.set i (some (.dat d)))) : dSeq (dSet i T) S2 D γ := h
theorem sq_ifN {t : DT Ω} {S3 : DS Ω} (h : t γ fun b γ1 => if b = true then S { D with nx := S3 D } γ1 else S2 { D with nx := S3 D } γ1) : dSeq (dIfS t S S2) S3 D γ := h
theorem nd_b {q : Bool → Gam Ω → Prop} (h : T γ fun d γ' => match d with | .bl b => q b γ' | _ => False) : tB' T γ q := h
theorem take_mono {n : Int} : ∀ (p p' : Dat Ω → Gam Ω → Prop), (∀ d γ, p d γ → p' d γ) → tTk i (tC' (.int n)) γ p → tTk i (tC' (.int n)) γ p' := fun p p' h e => by
  unfold tTk at e ⊢
  split at e
  · show match (Dat.int n : Dat Ω), γ[i]? with | .int many, some (some (.box p m)) => _ | _, _ => False
    have e : match (Dat.int n : Dat Ω), γ[i]? with | .int many, some (some (.box p m)) => _ | _, _ => False := e
    split at e
    · exact ⟨e.1, fun r r0 r1 => h _ _ (e.2 r r0 r1)⟩
    · exact e.elim
  · exact e.elim
/-! what operations come to -/
theorem fe_lst (h : ds.length ≤ sizeLine) : FEv fLst ds (.lst ds) := fun k r => ⟨h, r⟩
theorem fe_tup (h : ds.length ≤ sizeLine) : FEv fTup ds (.tup ds) := fun k r => ⟨h, r⟩
theorem fe_addI {a b : Int} : FEv (Ω := Ω) fAdd [.int a, .int b] (.int (a + b)) := fun k r => r
theorem fe_addS {a b : Str} (h : a.length + b.length ≤ sizeLine) : FEv (Ω := Ω) fAdd [.str a, .str b] (.str (a ++ b)) := fun k r => ⟨h, r⟩
theorem fe_addL {a b : List (Dat Ω)} (h : a.length + b.length ≤ sizeLine) : FEv fAdd [.lst a, .lst b] (.lst (a ++ b)) := fun k r => ⟨h, r⟩
theorem fe_addT {a b : List (Dat Ω)} (h : a.length + b.length ≤ sizeLine) : FEv fAdd [.tup a, .tup b] (.tup (a ++ b)) := fun k r => ⟨h, r⟩
theorem fe_I0 {h : Int → Int → Int} {a b : Int} : FEv (Ω := Ω) (fI20 h) [.int a, .int b] (.int (h a b)) := fun k r => r
theorem fe_I {C : Int → Int → Prop} {h : Int → Int → Int} {a b : Int} (c : C a b) : FEv (Ω := Ω) (fI2 C h) [.int a, .int b] (.int (h a b)) := fun k r => ⟨c, r⟩
theorem fe_B {h : Int → Int → Bool} {a b : Int} : FEv (Ω := Ω) (fB20 h) [.int a, .int b] (.bl (h a b)) := fun k r => r
theorem fe_neg {a : Int} : FEv (Ω := Ω) fNeg [.int a] (.int (-a)) := fun k r => r
theorem fe_abs {a : Int} : FEv (Ω := Ω) fAbs [.int a] (.int (if a < 0 then -a else a)) := fun k r => r
theorem fe_eqI {a b : Int} : FEv (Ω := Ω) fEq [.int a, .int b] (.bl (decide (a = b))) := fun k r => r
theorem fe_neI {a b : Int} : FEv (Ω := Ω) fNe [.int a, .int b] (.bl (!decide (a = b))) := fun k r => r
theorem fe_eqS {a b : Str} : FEv (Ω := Ω) fEq [.str a, .str b] (.bl (decide (a = b))) := fun k r => r
theorem fe_neS {a b : Str} : FEv (Ω := Ω) fNe [.str a, .str b] (.bl (!decide (a = b))) := fun k r => r
theorem fe_ixL {i : Int} (h : atI ds i = some d) : FEv fIx [.lst ds, .int i] d := fun k r => ⟨d, h, r⟩
theorem fe_ixT {i : Int} (h : atI ds i = some d) : FEv fIx [.tup ds, .int i] d := fun k r => ⟨d, h, r⟩
theorem fe_ixS {z : Str} {i : Int} {c : Nat} (l : z.length ≤ sizeLine) (h : atI z.cps.toList i = some c) : FEv (Ω := Ω) fIx [.str z, .int i] (.str ⟨#[c]⟩) := fun k r => ⟨l, c, h, r⟩
theorem fe_lenL : FEv fLen [.lst ds] (.int ds.length) := fun k r => r
theorem fe_lenT : FEv fLen [.tup ds] (.int ds.length) := fun k r => r
theorem fe_lenS {z : Str} (l : z.length ≤ sizeLine) : FEv (Ω := Ω) fLen [.str z] (.int z.length) := fun k r => ⟨l, r⟩
theorem fe_listT : FEv fListOf [.tup ds] (.lst ds) := fun k r => r
theorem fe_listL : FEv fListOf [.lst ds] (.lst ds) := fun k r => r
theorem fe_tupL : FEv fTupOf [.lst ds] (.tup ds) := fun k r => r
theorem fe_isN {n : Bool} : FEv (fIsN n) [d, .non] (.bl (if n then !isNon d else isNon d)) := fun k r => r
theorem fe_slLT {a : Int} : FEv fSlL [.tup ds, .int a] (.tup (DL.cutD ds (some a) none)) := fun k r => r
theorem fe_slHT {a : Int} : FEv fSlH [.tup ds, .int a] (.tup (DL.cutD ds none (some a))) := fun k r => r
theorem fe_slLL {a : Int} : FEv fSlL [.lst ds, .int a] (.lst (DL.cutD ds (some a) none)) := fun k r => r
theorem fe_slHL {a : Int} : FEv fSlH [.lst ds, .int a] (.lst (DL.cutD ds none (some a))) := fun k r => r
theorem fe_slLS {z : Str} {a : Int} (l : z.length ≤ sizeLine) : FEv (Ω := Ω) fSlL [.str z, .int a] (.str (cutS z (some a) none)) := fun k r => ⟨l, r⟩
theorem fe_slHS {z : Str} {a : Int} (l : z.length ≤ sizeLine) : FEv (Ω := Ω) fSlH [.str z, .int a] (.str (cutS z none (some a))) := fun k r => ⟨l, r⟩
theorem sz {n : Nat} (h : Nat.ble n 100000 = true := by rfl) : n ≤ sizeLine := Nat.le_trans (Nat.le_of_ble_eq_true h) (by decide)
end
end DL
set_option Elab.async false
set_option linter.all false
set_option maxRecDepth 100000
set_option maxHeartbeats 16000000
namespace DL
open PySem PySem.Spec PyProof.Rows L2 Nv
section
variable {Ω : Type} {K : PySem.W.Frag} {W : Obs Ω} {X : Cx} {st : Stmt} {T U V : DE Ω}
/-- a, b, c = x, y, z -/
def dPar3 (i j l : Nat) (T U V : DE Ω) : DS Ω := fun D γ => T γ fun d γ1 => U γ1 fun e γ2 => V γ2 fun f γ3 => D.nx (((γ3.set i (some (.dat d))).set j (some (.dat e))).set l (some (.dat f)))
theorem ds_par3 {i j l : Nat} (h : PS X st (tPar3 i j l (upK K W [T, U, V]))) : PS X st (upS K W (dPar3 i j l T U V)) := PSc h fun D σ H ⟨F, g, γ, E, R, t, f⟩ =>
  evK_sound [T, U, V] R (r := fun ds γ' => match ds with
    | [d, e, z] => E.nx (((γ'.set i (some (.dat d))).set j (some (.dat e))).set l (some (.dat z)))
    | _ => False) t fun ds γ' g' vs H' hq le R' dvs => by
    cases dvs with
    | nil => exact hq.elim
    | cons h1 r1 =>
      cases r1 with
      | nil => exact hq.elim
      | cons h2 r2 =>
        cases r2 with
        | nil => exact hq.elim
        | cons h3 r3 =>
          cases r3 with
          | nil => exact ⟨_, _, _, rfl, f.nx _ _ H' g' hq le (((R'.setD i h1).setD j h2).setD l h3)⟩
          | cons _ _ => exact hq.elim
end
end DL
set_option Elab.async false
set_option linter.all false
set_option maxRecDepth 100000
set_option maxHeartbeats 16000000
/-! Bounds of what is shown of a datum. -/
namespace Nv
open PySem PySem.Spec PyProof.Rows L2
/-! ### small data are nice -/
mutual
def okD : PyData → Prop
  | .none => True
  | .bool _ => True
  | .int i => i.natAbs < 10 ^ 40
  | .str x => x.length ≤ 100 ∧ ∀ c ∈ x.cps.toList, c < 200
  | .list l => okDs l
  | .tuple l => okDs l
  | .dict l => l = []
def okDs : List PyData → Prop
  | [] => True
  | x :: r => okD x ∧ okDs r
end
mutual
def cap : PyData → Nat
  | .none => 4
  | .bool _ => 5
  | .int _ => 41
  | .str _ => 1002
  | .list l => caps l + 2
  | .tuple l => caps l + 3
  | .dict _ => 2
def caps : List PyData → Nat
  | [] => 0
  | x :: r => cap x + 2 + caps r
end
theorem piled_c (t : Str) (r : List Str) : piled (t :: r) = t.length + 2 + piled r := by simp [piled]
mutual
theorem shown_le : ∀ d : PyData, okD d → d.shown.length ≤ cap d
  | .none, _ => by show _ ≤ 4; decide
  | .bool b, _ => by cases b <;> (show _ ≤ 5; decide)
  | .int i, h => intText_le (by simpa [okD] using h)
  | .str x, h => by
    have h2 : x.length ≤ 100 ∧ ∀ c ∈ x.cps.toList, c < 200 := by simpa [okD] using h
    have := reprText_le (t := x) (by omega) h2.2
    show (reprText x).length ≤ 1002
    omega
  | .list l, h => by
    have h2 : okDs l := by simpa [okD] using h
    have a := listText_le (PyData.shownAll l)
    have b := showns_le l h2
    show (listText (PyData.shownAll l)).length ≤ caps l + 2
    omega
  | .tuple l, h => by
    have h2 : okDs l := by simpa [okD] using h
    have a := tupleText_le (PyData.shownAll l)
    have b := showns_le l h2
    show (tupleText (PyData.shownAll l)).length ≤ caps l + 3
    omega
  | .dict l, h => by
    have h2 : l = [] := by simpa [okD] using h
    subst h2
    show _ ≤ 2
    decide
theorem showns_le : ∀ l : List PyData, okDs l → piled (PyData.shownAll l) ≤ caps l
  | [], _ => by show piled [] ≤ 0; decide
  | x :: r, h => by
    have h2 : okD x ∧ okDs r := by simpa [okDs] using h
    have a := shown_le x h2.1
    have b := showns_le r h2.2
    show piled (x.shown :: PyData.shownAll r) ≤ cap x + 2 + caps r
    rw [piled_c]
    omega
end
mutual
theorem shows_of : ∀ d : PyData, okD d → d.showable = true
  | .none, _ => rfl
  | .bool b, _ => (nice_bl b).shows
  | .int i, h => (nice_int (by simpa [okD] using h)).shows
  | .str x, h => by
    have h2 : x.length ≤ 100 ∧ ∀ c ∈ x.cps.toList, c < 200 := by simpa [okD] using h
    exact (nice_str (by omega) h2.2).shows
  | .list l, h => show_all l (by simpa [okD] using h)
  | .tuple l, h => show_all l (by simpa [okD] using h)
  | .dict l, h => by
    have h2 : l = [] := by simpa [okD] using h
    subst h2
    rfl
theorem show_all : ∀ l : List PyData, okDs l → PyData.showableAll l = true
  | [], _ => rfl
  | x :: r, h => by
    have h2 : okD x ∧ okDs r := by simpa [okDs] using h
    show (x.showable && PyData.showableAll r) = true
    rw [shows_of x h2.1, show_all r h2.2]
    rfl
end
mutual
theorem lay_of : ∀ d : PyData, okD d → d.hasDict = false → d.canLay0 = true
  | .none, _, _ => by simp only [PyData.canLay0]
  | .bool _, _, _ => by simp only [PyData.canLay0]
  | .int _, _, _ => by simp only [PyData.canLay0]
  | .str x, h, _ => by
    have h2 : x.length ≤ 100 ∧ ∀ c ∈ x.cps.toList, c < 200 := by simpa [okD] using h
    have : PyData.strOk x = true := by
      show x.cps.all (· < 0x110000) = true
      rw [Array.all_eq_true']
      intro c hc
      have := h2.2 c (Array.mem_toList_iff.mpr hc)
      exact decide_eq_true (by omega)
    simpa only [PyData.canLay0] using this
  | .list l, h, n => by
    have := lays_of l (by simpa [okD] using h) (by simpa [PyData.hasDict] using n)
    simpa only [PyData.canLay0] using this
  | .tuple l, h, n => by
    have := lays_of l (by simpa [okD] using h) (by simpa [PyData.hasDict] using n)
    simpa only [PyData.canLay0] using this
  | .dict l, h, n => by simp [PyData.hasDict] at n
theorem lays_of : ∀ l : List PyData, okDs l → PyData.hasDictAll l = false → PyData.canLayAll0 l = true
  | [], _, _ => by simp only [PyData.canLayAll0]
  | x :: r, h, n => by
    have h2 : okD x ∧ okDs r := by simpa [okDs] using h
    have n2 : x.hasDict = false ∧ PyData.hasDictAll r = false := by simpa [PyData.hasDictAll] using n
    simp only [PyData.canLayAll0, lay_of x h2.1 n2.1, lays_of r h2.2 n2.2, Bool.and_self]
end
theorem nice_of {d : PyData} (o : okD d) (dp : d.depth ≤ 20) (cp : cap d ≤ 1000000) (n : d.hasDict = false) : Nice d := ⟨shows_of d o, by omega, Nat.le_trans (shown_le d o) (Nat.le_trans cp (by decide)), fun h => by rw [n] at h; cases h⟩
theorem okDs_app : ∀ {a b : List PyData}, okDs a → okDs b → okDs (a ++ b)
  | [], _, _, h => h
  | x :: r, b, h, k => by
    have h2 : okD x ∧ okDs r := by simpa [okDs] using h
    show okDs (x :: (r ++ b))
    have := okDs_app h2.2 k
    simpa [okDs] using And.intro h2.1 this
theorem caps_app : ∀ (a b : List PyData), caps (a ++ b) = caps a + caps b
  | [], b => by show caps b = 0 + caps b; omega
  | x :: r, b => by
    show cap x + 2 + caps (r ++ b) = cap x + 2 + caps r + caps b
    rw [caps_app r b]
    omega
theorem okDs_all : ∀ {l : List PyData}, (∀ x ∈ l, okD x) → okDs l
  | [], _ => trivial
  | x :: r, h => by
    have := okDs_all (l := r) fun y hy => h y (List.mem_cons_of_mem _ hy)
    simpa [okDs] using And.intro (h x List.mem_cons_self) this
theorem caps_all {n : Nat} : ∀ {l : List PyData}, (∀ x ∈ l, cap x ≤ n) → caps l ≤ (n + 2) * l.length
  | [], _ => Nat.zero_le _
  | x :: r, h => by
    have h1 := caps_all (l := r) fun y hy => h y (List.mem_cons_of_mem _ hy)
    have h2 := h x List.mem_cons_self
    show cap x + 2 + caps r ≤ _
    rw [List.length_cons, Nat.mul_add]
    omega
theorem depth_all {n : Nat} : ∀ {l : List PyData}, (∀ x ∈ l, x.depth ≤ n) → PyData.depthAll l ≤ n
  | [], _ => Nat.zero_le _
  | x :: r, h => by
    have h1 := depth_all (l := r) fun y hy => h y (List.mem_cons_of_mem _ hy)
    have h2 := h x List.mem_cons_self
    show max x.depth (PyData.depthAll r) ≤ n
    omega
theorem flat_all : ∀ {l : List PyData}, (∀ x ∈ l, x.hasDict = false) → PyData.hasDictAll l = false
  | [], _ => rfl
  | x :: r, h => by
    show (x.hasDict || PyData.hasDictAll r) = false
    rw [h x List.mem_cons_self, flat_all fun y hy => h y (List.mem_cons_of_mem _ hy)]
    rfl
end Nv
set_option Elab.async false
set_option linter.all false
set_option maxRecDepth 100000
set_option maxHeartbeats 16000000
namespace V1
open PySem PySem.Spec PyProof.Rows L2 Nv DL
local macro_rules | `(tactic| walk_at "evs") => `(tactic| repeat (first
  | exact ev_c | exact ev_n rfl | exact evk0 | exact eva0 | apply evk1 | apply eva_nm rfl | apply eva_ex | apply ev_ks | apply ev_ops | apply ev_ch | apply evt_v | apply evt_not
  | exact fe_addI | exact fe_I0 | exact fe_B | exact fe_eqI | exact fe_neI | exact fe_eqS | exact fe_neS | exact fe_neg | exact fe_abs | exact fe_lst sz | exact fe_tup sz | exact fe_lenL | exact fe_lenT | exact fe_listL | exact fe_listT | exact fe_tupL | exact fe_isN | exact fe_ixT rfl | exact fe_ixL rfl | exact fe_slLT | exact fe_slHT | exact fe_slLL | exact fe_slHL))

abbrev D0 := Dat Empty
def W0 : Obs Empty := ⟨fun _ _ _ => False, fun _ h => h⟩
theorem fn_weak {P : Program} {w : World} {K : PySem.W.Frag} {mg : Str → Option Value} {base : Heap} {CX : CXT} {k : Nat} {f : Addr} {fd : FuncData} {ps : List Str} {sp sp' : Sp} (F : FnOk P w K mg base CX k f fd ps sp) (h : ∀ vs H Q E, sp' vs H Q E → sp vs H Q E) : FnOk P w K mg base CX k f fd ps sp' :=
  ⟨fun vs H Q E z => F.len vs H Q E (h _ _ _ _ z), fun A outer s H args us vs Q E a b c d e => F.run A outer s H args us vs Q E a b c d (h _ _ _ _ e)⟩
theorem take_weak : ∀ vs H Q E, spTk vs H Q E → spTake vs H Q E := fun vs H Q E ⟨p, m, many, e, b, h1, h2, h3, q⟩ => ⟨p, m, many, e, b, by omega, h2, h3, fun r H' r0 r1 bx bu => q r H' r0 r1 bx bu⟩
structure Bi (mg : Str → Option Value) : Prop where
  range : mg "range" = none
  tuple : mg "tuple" = none
  len : mg "len" = none
  abs : mg "abs" = none
  list : mg "list" = none
structure AtV (K : PySem.W.Frag) (mg : Str → Option Value) (n : Str) (f : Addr) (fd : FuncData) (ps : List Str) : Prop where
  g : mg n = some (.ref f)
  k : PySem.W.keepIn K (.ref f) = true
  b : Binds K fd ps []
abbrev Pt := Int × Int
abbrev Eg := Pt × Pt
def pD (p : Pt) : D0 := .tup [.int p.1, .int p.2]
def eD (e : Eg) : D0 := .tup [pD e.1, pD e.2]
def onP (p : Pt) : Bool := (decide (0 ≤ p.1) && decide (p.1 ≤ 30)) && (decide (0 ≤ p.2) && decide (p.2 ≤ 30))
/-- an edge of the paper, its lesser point first -/
def edB (e : Eg) : Bool := (onP e.1 && onP e.2) && (decide (e.2 = (e.1.1, e.1.2 + 1)) || decide (e.2 = (e.1.1 + 1, e.1.2)))
theorem ed_up {x y : Int} (h0 : 0 ≤ x) (h1 : x ≤ 30) (h2 : 0 ≤ y) (h3 : y < 30) : edB ((x, y), (x, y + 1)) = true := by
  simp [edB, onP]
  omega
theorem ed_right {x y : Int} (h0 : 0 ≤ x) (h1 : x < 30) (h2 : 0 ≤ y) (h3 : y ≤ 30) : edB ((x, y), (x + 1, y)) = true := by
  simp [edB, onP]
  omega
def fEdges : Nat → List D0 → (D0 → Nat → Prop) → Prop := fun m ds q => ∃ most, ds = [.int most] ∧ (1 ≤ most ∧ most ≤ 10 ∧ m ≤ 900000) ∧ ∀ (es : List Eg) m', (∀ e ∈ es, edB e = true) → es.length ≤ 250 → m' ≤ m + 300 → q (.lst (es.map eD)) m'

abbrev gE (bp : Addr) (m1 : Nat) (most wd hg th lf lw x y : Int) (es : List Eg) : Gam Empty := [some (.box bp m1), some (.dat (.int most)), some (.dat (.int wd)), some (.dat (.int hg)), some (.dat (.int th)), some (.dat (.int lf)), some (.dat (.int lw)), some (.own (es.map eD)), some (.dat (.int x)), some (.dat (.int y))]
theorem stepU (D : EndsD Empty) (bp : Addr) (m1 : Nat) (most wd hg th lf lw x y : Int) (es : List Eg) (hm : m1 ≤ 950000) (hl : es.length ≤ 300) (k : ∀ es' m', (es' = es ∨ (y < lw + hg ∧ es' = es ++ [((x, y), (x, y + 1))])) → m' ≤ m1 + 1 → D.nx (gE bp m' most wd hg th lf lw x y es')) :
    dIfS (dAnd (tB' (tOps [Opn.nm 9, Opn.ex (tOps [Opn.nm 6, Opn.nm 3] fAdd)] (fB20 fun i j => decide (i < j)))) (tB' (tOps [Opn.ex (tTk 0 (tC' (Dat.int 5))), Opn.nm 4] (fB20 fun i j => decide (i < j))))) (dApp 7 (tKs [tKs [tN 8, tN 9] fTup, tKs [tN 8, tOps [Opn.nm 9, Opn.ex (tC' (Dat.int 1))] fAdd] fTup] fTup)) dNext D (gE bp m1 most wd hg th lf lw x y es) := by
  refine ite2 (fun c1 => ⟨⟨by omega, by decide, by decide⟩, fun r r0 r1 => ite2 (fun c2 => ?_) (fun _ => k es _ (.inl rfl) (by omega))⟩) (fun c1 => k es _ (.inl rfl) (by omega))
  have := k (es ++ [((x, y), (x, y + 1))]) (m1 + 1) (.inr ⟨of_decide_eq_true c1, rfl⟩) (Nat.le_refl _)
  unfold gE at this
  rw [List.map_append] at this
  refine ⟨sz, sz, sz, ?_, this⟩
  rw [List.length_map]
  exact Nat.lt_of_le_of_lt hl (by decide)
theorem stepR (D : EndsD Empty) (bp : Addr) (m1 : Nat) (most wd hg th lf lw x y : Int) (es : List Eg) (hm : m1 ≤ 950000) (hl : es.length ≤ 300) (k : ∀ es' m', (es' = es ∨ (x < lf + wd ∧ es' = es ++ [((x, y), (x + 1, y))])) → m' ≤ m1 + 1 → D.nx (gE bp m' most wd hg th lf lw x y es')) :
    dIfS (dAnd (tB' (tOps [Opn.nm 8, Opn.ex (tOps [Opn.nm 5, Opn.nm 2] fAdd)] (fB20 fun i j => decide (i < j)))) (tB' (tOps [Opn.ex (tTk 0 (tC' (Dat.int 5))), Opn.nm 4] (fB20 fun i j => decide (i < j))))) (dApp 7 (tKs [tKs [tN 8, tN 9] fTup, tKs [tOps [Opn.nm 8, Opn.ex (tC' (Dat.int 1))] fAdd, tN 9] fTup] fTup)) dNext D (gE bp m1 most wd hg th lf lw x y es) := by
  refine ite2 (fun c1 => ⟨⟨by omega, by decide, by decide⟩, fun r r0 r1 => ite2 (fun c2 => ?_) (fun _ => k es _ (.inl rfl) (by omega))⟩) (fun c1 => k es _ (.inl rfl) (by omega))
  have := k (es ++ [((x, y), (x + 1, y))]) (m1 + 1) (.inr ⟨of_decide_eq_true c1, rfl⟩) (Nat.le_refl _)
  unfold gE at this
  rw [List.map_append] at this
  refine ⟨sz, sz, sz, ?_, this⟩
  rw [List.length_map]
  exact Nat.lt_of_le_of_lt hl (by decide)
section
variable {P : Program} {w : World} {K : PySem.W.Frag} {mg : Str → Option Value} {base : Heap}
theorem scED : FnScope ["_law_box_here", "_law_most", "_law_wide", "_law_high", "_law_thick", "_law_left", "_law_low", "_law_found", "_law_x", "_law_y"] ["_law_box_here", "_law_most"] (defScope (top 23)) := ⟨rfl, rfl, rfl, by decide +kernel, rfl, by decide +kernel, by decide +kernel⟩
theorem ok_edgesD {f : Addr} {fd : FuncData} (F : Fun K "_law_edges" "_law_edges" (top 23) f fd) (B : Bi mg) {fT : Addr} {fdT : FuncData} (GT : FnOk P w K mg base CX0 1 fT fdT ["_law_box_here", "_law_many_here"] spTk) (AT : AtV K mg "_law_take" fT fdT ["_law_box_here", "_law_many_here"]) : FnOk P w K mg base CX0 2 f fd ["_law_box_here", "_law_most"] (DL.spB K W0 fEdges) := by
  refine fnB F scED (fun m ds q h => ?_) fun cdv A outer s H E hr => ?_
  · obtain ⟨_, rfl, _⟩ := h
    rfl
  have hu64 : (A.deeper (envOfC "_law_edges" (defScope (top 23)) s.heap.objs.size f cdv)).units + 64 < cLine := by
    have := hr.un
    omega
  have hu65 : (A.deeper (envOfC "_law_edges" (defScope (top 23)) s.heap.objs.size f cdv)).units + 65 < cLine := by
    have := hr.un
    omega
  refine ⟨_, (sdc (ds_par3 (i := 2) (j := 3) (l := 4) (ps_par3 (i := 2) (j := 3) (l := 4) rfl scED.nd rfl rfl rfl (by decide) (by decide) (by decide) rfl rfl rfl (pk1 (pd_bin op_addA od_add (po_ex pd_int) (po_ex (pd_take (pe_call GT (hr.mono (by decide)) rfl AT.g AT.k AT.b .nil pass0 (pa_cons (pv 0) (pk1 (pd_name (pv 1)) pk0)))))) (pk1 (pd_bin op_addA od_add (po_ex pd_int) (po_ex (pd_take (pe_call GT (hr.mono (by decide)) rfl AT.g AT.k AT.b .nil pass0 (pa_cons (pv 0) (pk1 (pd_name (pv 1)) pk0)))))) (pk1 (pd_bin op_addA od_add (po_ex pd_int) (po_ex (pd_take (pe_call GT (hr.mono (by decide)) rfl AT.g AT.k AT.b .nil pass0 (pa_cons (pv 0) (pk1 pd_int pk0)))))) pk0))) (by rfl)))
    (sdc (ds_par (i := 5) (j := 6) (ps_par (i := 5) (j := 6) rfl scED.nd rfl rfl (by decide) rfl rfl (pk1 (pd_take (pe_call GT (hr.mono (by decide)) rfl AT.g AT.k AT.b .nil pass0 (pa_cons (pv 0) (pk1 (pd_bin op_sub od_I20 (po_ex pd_int) (po_name (pv 2))) pk0)))) (pk1 (pd_take (pe_call GT (hr.mono (by decide)) rfl AT.g AT.k AT.b .nil pass0 (pa_cons (pv 0) (pk1 (pd_bin op_sub od_I20 (po_ex pd_int) (po_name (pv 3))) pk0)))) pk0)) (by rfl)))
    (sdc (ds_setF (ps_set (i := 7) scED.nd rfl (Or.inl rfl) (pf_lst pk0)))
    (sdc (ds_for (ps_for PassesOwn.never rfl (id_R2 (pi_range2 (by rfl) B.range (pk1 (pd_name (pv 5)) (pk1 (pd_bin op_addA od_add (po_ex (pd_bin op_addA od_add (po_name (pv 5)) (po_name (pv 2)))) (po_ex pd_int)) pk0)))) (gd_name (pg_name (i := 8) scED.nd rfl (Or.inl rfl)))
    (sd1 (ds_for (ps_for PassesOwn.never rfl (id_R2 (pi_range2 (by rfl) B.range (pk1 (pd_name (pv 6)) (pk1 (pd_bin op_addA od_add (po_ex (pd_bin op_addA od_add (po_name (pv 6)) (po_name (pv 3)))) (po_ex pd_int)) pk0)))) (gd_name (pg_name (i := 9) scED.nd rfl (Or.inl rfl)))
    (sdc (ds_if (PW.pt (pwd_and (pt_c op_lt od_B20 (po_name (pv 9)) (po_ex (pd_bin op_addA od_add (po_name (pv 6)) (po_name (pv 3)))) (nomark _)) (pwd_and1 (pt_c op_lt od_B20 (po_ex (pd_take (pe_call GT (hr.mono (by decide)) rfl AT.g AT.k AT.b .nil pass0 (pa_cons (pv 0) (pk1 pd_int pk0))))) (po_name (pv 4)) (nomark _)))))
    (sd1 (ds_app (ps_expr (pe_bm PySem.F.plainAttrs_list PySem.F.slot_list_append PySem.F.type_list_append mt_append (pv 7) (pk1 (pd_tup (pk1 (pd_tup (pk1 (pd_name (pv 8)) (pk1 (pd_name (pv 9)) pk0))) (pk1 (pd_tup (pk1 (pd_name (pv 8)) (pk1 (pd_bin op_addA od_add (po_name (pv 9)) (po_ex pd_int)) pk0))) pk0))) pk0)))))
    sd0)
    (sd1 (ds_if (PW.pt (pwd_and (pt_c op_lt od_B20 (po_name (pv 8)) (po_ex (pd_bin op_addA od_add (po_name (pv 5)) (po_name (pv 2)))) (nomark _)) (pwd_and1 (pt_c op_lt od_B20 (po_ex (pd_take (pe_call GT (hr.mono (by decide)) rfl AT.g AT.k AT.b .nil pass0 (pa_cons (pv 0) (pk1 pd_int pk0))))) (po_name (pv 4)) (nomark _)))))
    (sd1 (ds_app (ps_expr (pe_bm PySem.F.plainAttrs_list PySem.F.slot_list_append PySem.F.type_list_append mt_append (pv 7) (pk1 (pd_tup (pk1 (pd_tup (pk1 (pd_name (pv 8)) (pk1 (pd_name (pv 9)) pk0))) (pk1 (pd_tup (pk1 (pd_bin op_addA od_add (po_name (pv 8)) (po_ex pd_int)) (pk1 (pd_name (pv 9)) pk0))) pk0))) pk0)))))
    sd0))))))))
    (sd1 (ds_ret (pd_name (pv 7)))))))), ?_⟩
  rintro bp m ds q ⟨most, rfl, ⟨h1, h10, hm⟩, h⟩
  refine ⟨⟨by omega, by omega, by omega⟩, fun a a0 a1 => ⟨⟨by omega, by omega, by omega⟩, fun b b0 b1 => ⟨⟨by omega, by omega, by omega⟩, fun c c0 c1 => ?_⟩⟩⟩
  refine ⟨⟨by omega, by omega, by omega⟩, fun lf lf0 lf1 => ⟨⟨by omega, by omega, by omega⟩, fun lw lw0 lw1 => ⟨sz, ?_⟩⟩⟩
  refine ⟨⟨by omega, by omega, by omega⟩, ?_⟩
  refine ⟨⟨fun i γ => ∃ (es : List Eg) (m1 : Nat) (o8 o9 : Option (Sl Empty)), γ = [some (.box bp m1), some (.dat (.int most)), some (.dat (.int (1 + a))), some (.dat (.int (1 + b))), some (.dat (.int (1 + c))), some (.dat (.int lf)), some (.dat (.int lw)), some (.own (es.map eD)), o8, o9] ∧ (∀ e ∈ es, edB e = true) ∧ es.length ≤ 22 * i ∧ m1 ≤ m + 5 + 22 * i, ⟨[], m + 1 + 1 + 1 + 1 + 1, _, _, rfl, (fun e he => nomatch he), Nat.zero_le _, by omega⟩, ?_, ?_⟩⟩
  · rintro i d γ hd ⟨es, m1, o8, o9, rfl, he, hl, hm1⟩
    obtain ⟨hi, rfl⟩ := rngD_at hd
    refine ⟨⟨by omega, by omega, by omega⟩, ?_⟩
    refine ⟨⟨fun j γ => ∃ (es : List Eg) (m1 : Nat) (o9 : Option (Sl Empty)), γ = [some (.box bp m1), some (.dat (.int most)), some (.dat (.int (1 + a))), some (.dat (.int (1 + b))), some (.dat (.int (1 + c))), some (.dat (.int lf)), some (.dat (.int lw)), some (.own (es.map eD)), some (.dat (.int (lf + i))), o9] ∧ (∀ e ∈ es, edB e = true) ∧ es.length ≤ 22 * i + 2 * j ∧ m1 ≤ m + 5 + 22 * i + 2 * j, ⟨es, m1, _, rfl, he, by omega, by omega⟩, ?_, ?_⟩⟩
    · rintro j d γ hd ⟨es, m1, o9, rfl, he, hl, hm1⟩
      obtain ⟨hj, rfl⟩ := rngD_at hd
      have ib : 0 ≤ lf + (i : Int) ∧ lf + (i : Int) ≤ lf + (1 + a) := by omega
      have jb : 0 ≤ lw + (j : Int) ∧ lw + (j : Int) ≤ lw + (1 + b) := by omega
      refine stepU _ bp m1 most (1 + a) (1 + b) (1 + c) lf lw (lf + i) (lw + j) es (by omega) (by omega) fun es2 m2 h2 hm2 => ?_
      have h2l : es2.length ≤ es.length + 1 ∧ ∀ e ∈ es2, edB e = true := by
        rcases h2 with rfl | ⟨lt, rfl⟩
        · exact ⟨by omega, he⟩
        · refine ⟨by rw [List.length_append]; exact Nat.le_refl _, fun e h => ?_⟩
          rcases List.mem_append.mp h with h | h
          · exact he e h
          · rw [List.mem_singleton.mp h]
            exact ed_up (by omega) (by omega) (by omega) (by omega)
      obtain ⟨h2l, h2e⟩ := h2l
      refine stepR _ bp m2 most (1 + a) (1 + b) (1 + c) lf lw (lf + i) (lw + j) es2 (by omega) (by omega) fun es3 m3 h3 hm3 => ?_
      have h3l : es3.length ≤ es2.length + 1 ∧ ∀ e ∈ es3, edB e = true := by
        rcases h3 with rfl | ⟨lt, rfl⟩
        · exact ⟨by omega, h2e⟩
        · refine ⟨by rw [List.length_append]; exact Nat.le_refl _, fun e h => ?_⟩
          rcases List.mem_append.mp h with h | h
          · exact h2e e h
          · rw [List.mem_singleton.mp h]
            exact ed_right (by omega) (by omega) (by omega) (by omega)
      obtain ⟨h3l, h3e⟩ := h3l
      exact ⟨es3, m3, _, rfl, h3e, by omega, by omega⟩
    · rintro γ ⟨es, m1, o9, rfl, he, hl, hm1⟩
      rw [rngD_len] at hl hm1
      exact ⟨es, m1, _, _, rfl, he, by omega, by omega⟩
  · rintro γ ⟨es, m1, o8, o9, rfl, he, hl, hm1⟩
    rw [rngD_len] at hl hm1
    exact ⟨m1, rfl, h es m1 he (by omega) (by omega)⟩
end
end V1
set_option Elab.async false
set_option linter.all false
set_option maxRecDepth 100000
set_option maxHeartbeats 16000000
namespace V1
open PySem PySem.Spec PyProof.Rows L2 Nv DL
/-! ### what is no edge, of data -/
theorem en_no {x y u v : Int} (h1 : ¬ (u = x ∧ v = y + 1 ∧ 0 ≤ x ∧ x ≤ 30 ∧ 0 ≤ y ∧ y < 30)) (h2 : ¬ (u = x + 1 ∧ v = y ∧ 0 ≤ x ∧ x < 30 ∧ 0 ≤ y ∧ y ≤ 30)) : edgeB (.tuple [.tuple [.int x, .int y], .tuple [.int u, .int v]]) = false := by
  cases h : edgeB (.tuple [.tuple [.int x, .int y], .tuple [.int u, .int v]]) with
  | false => rfl
  | true =>
    exfalso
    simp only [edgeB, ptB, cooB, stepB, xOf, yOf, Bool.and_eq_true, Bool.or_eq_true, decide_eq_true_eq] at h
    obtain ⟨⟨⟨a1, a2⟩, a3, a4⟩, ⟨⟨b1, b2⟩, b3, b4⟩, c | c⟩ := h
    · have c1 : u - x = 1 := of_decide_eq_true c.1
      have c2 : v - y = 0 := of_decide_eq_true c.2
      exact h2 (by omega)
    · have c1 : u - x = 0 := of_decide_eq_true c.1
      have c2 : v - y = 1 := of_decide_eq_true c.2
      exact h1 (by omega)
/-- as data for repr: an empty dict, too -/
def pyE : D0 → Option PyData
  | .dK [] [] => some (.dict [])
  | d => py d
/-- what is no edge -/
structure OddQ (pd : PyData) : Prop where
  no : edgeB pd = false
  ok : okD pd
  dp : pd.depth ≤ 5
  cp : cap pd ≤ 10000
  dic : pd.hasDict = true → pd = .dict []
theorem OddQ.flat {pd : PyData} (o : OddQ pd) : flatP pd := fun p r e => by
  subst e
  have hd : (PyData.tuple [p, r]).hasDict = false := by
    cases h : (PyData.tuple [p, r]).hasDict with
    | false => rfl
    | true => cases o.dic h
  have hr : r.hasDict = false := by
    have hd : (p.hasDict || (r.hasDict || false)) = false := hd
    cases h : r.hasDict with
    | false => rfl
    | true => rw [h] at hd; simp at hd
  have ok : okD r := by
    have := o.ok
    simp only [okD, okDs] at this
    exact this.2.1
  have dp : r.depth ≤ 64 := by
    have : max p.depth (max r.depth 0) + 1 ≤ 5 := o.dp
    omega
  refine ⟨hr, ?_⟩
  show (r.canLay0 && decide (r.depth ≤ 64)) = true
  rw [lay_of r ok hr, decide_eq_true dp]
  rfl
def OddE (d : D0) : Prop := ∃ pd, pyE d = some pd ∧ OddQ pd
theorem okI {i : Int} (h : i.natAbs ≤ 1000) : okD (.int i) := by
  show i.natAbs < 10 ^ 40
  exact Nat.lt_of_le_of_lt h (by decide)
def p2 (x y : Int) : D0 := .tup [.int x, .int y]
theorem odd_ed {x y u v : Int} (hx : x.natAbs ≤ 1000) (hy : y.natAbs ≤ 1000) (hu : u.natAbs ≤ 1000) (hv : v.natAbs ≤ 1000) (h1 : ¬ (u = x ∧ v = y + 1 ∧ 0 ≤ x ∧ x ≤ 30 ∧ 0 ≤ y ∧ y < 30)) (h2 : ¬ (u = x + 1 ∧ v = y ∧ 0 ≤ x ∧ x < 30 ∧ 0 ≤ y ∧ y ≤ 30)) : OddE (.tup [p2 x y, p2 u v]) := by
  refine ⟨.tuple [.tuple [.int x, .int y], .tuple [.int u, .int v]], rfl, en_no h1 h2, ?_, by show (2 : Nat) ≤ 5; decide, by show 185 ≤ 10000; decide, fun e => by cases e⟩
  simp only [okD, okDs]
  exact ⟨⟨okI hx, okI hy, trivial⟩, ⟨okI hu, okI hv, trivial⟩, trivial⟩
def oddsE (x y : Int) : List D0 := [.tup [p2 x y, p2 x y], .tup [p2 x y, p2 (x + 2) y], .tup [p2 x y, p2 (x + 1) (y + 1)], .tup [p2 (x + 1) y, p2 x y], .tup [p2 x (y + 1), p2 x y],
  .tup [p2 x 30, p2 x 31], .tup [p2 30 y, p2 31 y], .tup [p2 (-1) y, p2 0 y], .tup [p2 x (-1), p2 x 0], p2 x y, .tup [p2 x y], .non,
  .lst [p2 0 0, p2 1 0], .tup [p2 0 0, .tup [.bl true, .int 0]], .tup [.tup [.bl false, .int 0], p2 1 0], .tup [.str "00", .str "10"], .tup [p2 0 0, p2 1 0, p2 2 0], .dK [] [],
  .tup [p2 0 0, .lst [.int 1, .int 0]], .tup [.lst [.int 0, .int 0], p2 1 0], .tup [.tup [.int 0, .int 0, .int 0], p2 1 0], .str "edge", .int 7, .tup [.tup [p2 0 0, p2 1 0]], .tup [.tup [.int 0], .tup [.int 1]]]
theorem odds_all {x y : Int} (x0 : 0 ≤ x) (x1 : x ≤ 30) (y0 : 0 ≤ y) (y1 : y ≤ 30) {r : Int} (r0 : 0 ≤ r) (r1 : r < 25) : ∃ d, atI (oddsE x y) r = some d ∧ OddE d := by
  obtain ⟨j, rfl⟩ : ∃ j : Nat, r = j := ⟨r.toNat, by omega⟩
  have ix : okD (.int x) := okI (by omega)
  have iy : okD (.int y) := okI (by omega)
  have hj : j < 25 := by omega
  have k : ∀ {j : Nat} {d : D0}, (oddsE x y)[j]? = some d → OddE d → ∃ d, atI (oddsE x y) (j : Int) = some d ∧ OddE d := fun e o => ⟨_, atI_nat e, o⟩
  have hc : j = 0 ∨ j = 1 ∨ j = 2 ∨ j = 3 ∨ j = 4 ∨ j = 5 ∨ j = 6 ∨ j = 7 ∨ j = 8 ∨ j = 9 ∨ j = 10 ∨ j = 11 ∨ j = 12 ∨ j = 13 ∨ j = 14 ∨ j = 15 ∨ j = 16 ∨ j = 17 ∨ j = 18 ∨ j = 19 ∨ j = 20 ∨ j = 21 ∨ j = 22 ∨ j = 23 ∨ j = 24 := by omega
  rcases hc with rfl | rfl | rfl | rfl | rfl | rfl | rfl | rfl | rfl | rfl | rfl | rfl | rfl | rfl | rfl | rfl | rfl | rfl | rfl | rfl | rfl | rfl | rfl | rfl | rfl
  iterate 9 exact k rfl (odd_ed (by omega) (by omega) (by omega) (by omega) (by omega) (by omega))
  · refine k rfl ⟨.tuple [.int x, .int y], rfl, rfl, ?_, by show (1 : Nat) ≤ 5; decide, by show 89 ≤ 10000; decide, fun e => by cases e⟩
    simp only [okD, okDs]
    exact ⟨ix, iy, trivial⟩
  · refine k rfl ⟨.tuple [.tuple [.int x, .int y]], rfl, rfl, ?_, by show (2 : Nat) ≤ 5; decide, by show 94 ≤ 10000; decide, fun e => by cases e⟩
    simp only [okD, okDs]
    exact ⟨⟨ix, iy, trivial⟩, trivial⟩
  all_goals exact k rfl ⟨_, rfl, by decide +kernel, by simp [okD, okDs] <;> decide, by decide +kernel, by decide +kernel, by first | (intro e; rfl) | (intro e; cases e)⟩
end V1
set_option Elab.async false
set_option linter.all false
set_option maxRecDepth 100000
set_option maxHeartbeats 16000000
/-! repr of lists and tuples that hold an empty dict, and of a dict of one text. -/
namespace V1
open PySem PySem.Spec PyProof.Rows L2 Nv

theorem get_lt {h : Heap} {a : Addr} {o : Obj} (e : h.get? a = some o) : a < h.objs.size := Heap.lt_size e
theorem sys_lt {X : Cx} {pins : List (Addr × Obj)} {σ : L2.St} {H : Hp} {s : Shared} (I : L2.Inv X pins σ H s) : sysModules < s.heap.objs.size := by
  obtain ⟨o, es, ep, e, _⟩ := I.ok.mod.glob
  obtain ⟨e1, e2⟩ := I.ok.bs _ _ e
  obtain ⟨o', e3⟩ := I.base.there _ _ e1 (I.ok.noex _ _ e)
  exact Nat.lt_trans (show sysModules < mainGlobals by decide) (get_lt e3)
mutual
/-- no list stands in it -/
def noL : PyData → Bool
  | .list _ => false
  | .tuple l => noLs l
  | _ => true
def noLs : List PyData → Bool
  | [] => true
  | d :: r => noL d && noLs r
end
mutual
theorem reads_noL {P : Program} {w : World} {H : Hp} {h : Heap} (ok : HOk P w H h) : ∀ {v : V} {d : PyData} {u : Value}, DV H v d → noL d = true → RelV v u → ∃ as, Reads h u d as ∧ sysModules ∉ as
  | _, _, u, .non, _, r => ⟨[], by rw [show u = Value.none from r]; exact .none, by simp⟩
  | _, _, u, .bl b, _, r => ⟨[], by rw [show u = Value.bool b from r]; exact .bool b, by simp⟩
  | _, _, u, .int i, _, ⟨t, e⟩ => ⟨[], by rw [e]; exact .int i t, by simp⟩
  | _, _, u, .str x, _, ⟨t, e⟩ => ⟨[], by rw [e]; exact .str x t, by simp⟩
  | _, _, u, .lst h1 q, n, r => by simp [noL] at n
  | _, _, u, .tup (a := a) (xs := xs) h1 q, n, r => by
    obtain ⟨_, its, rv, o, e, hc, m, hd⟩ := ok a _ h1
    obtain ⟨as, ra, na⟩ := readss_noL ok q (by simpa [noL] using n) rv
    refine ⟨as, ?_, na⟩
    rw [show u = Value.ref a from r]
    exact .tuple e hc hd (by simpa using ra)
  | _, _, u, .emp (a := a) h1, _, r => ⟨_, emp_reads ok h1 r⟩
theorem readss_noL {P : Program} {w : World} {H : Hp} {h : Heap} (ok : HOk P w H h) : ∀ {vs : List V} {ds : List PyData} {us : List Value}, DVs H vs ds → noLs ds = true → Vals vs us → ∃ as, ReadsAll h us ds as ∧ sysModules ∉ as
  | _, _, _, .nil, _, .nil => ⟨[], .nil, by simp⟩
  | _, _, _, .cons (d := d) (ds := ds) h1 q, n, .cons r rs => by
    have n : noL d = true ∧ noLs ds = true := by simpa [noLs] using n
    obtain ⟨as, ra, na⟩ := reads_noL ok h1 n.1 r
    obtain ⟨bs, rb, nb⟩ := readss_noL ok q n.2 rs
    exact ⟨as ++ bs, .cons ra rb, fun z => (List.mem_append.mp z).elim na nb⟩
end
/-- where dicts stand in a value, its list is not the interpreter's own table -/
def NoS (H : Hp) (v : V) (d : PyData) : Prop := d.hasDict = true → ∃ a xs ds, v = .ref a ∧ DVs H xs ds ∧ noLs ds = true ∧ ((H a = some (.lst xs) ∧ a ≠ sysModules ∧ d = .list ds) ∨ (H a = some (.tup xs) ∧ d = .tuple ds) ∨ (H a = some (.dK []) ∧ d = .dict []))
theorem NoS.more {H H' : Hp} {v : V} {d : PyData} (h : NoS H v d) (k : Same H H') : NoS H' v d := fun z => by
  obtain ⟨a, xs, ds, e, q, n, r⟩ := h z
  exact ⟨a, xs, ds, e, q.more k, n, r.imp (fun ⟨x, y⟩ => ⟨k _ _ x, y⟩) (Or.imp (fun ⟨x, y⟩ => ⟨k _ _ x, y⟩) fun ⟨x, y⟩ => ⟨k _ _ x, y⟩)⟩
theorem NoS.reads {P : Program} {w : World} {H : Hp} {h : Heap} {v : V} {d : PyData} {u : Value} (n : NoS H v d) (dv : DV H v d) (ok : HOk P w H h) (r : RelV v u) : ∃ as, Reads h u d as ∧ (d.hasDict = true → sysModules ∉ as) := by
  cases e : d.hasDict with
  | false =>
    obtain ⟨as, ra⟩ := dv.reads ok r
    exact ⟨as, ra, fun z => nomatch z⟩
  | true =>
    obtain ⟨a, xs, ds, rfl, q, nl, hh⟩ := n e
    rw [show u = Value.ref a from r]
    rcases hh with ⟨h1, na, rfl⟩ | ⟨h1, rfl⟩ | ⟨h1, rfl⟩
    · obtain ⟨_, its, m, rv, e1⟩ := ok a _ h1
      obtain ⟨as, ra, ns⟩ := readss_noL ok q nl rv
      exact ⟨a :: as, .list e1 rfl rfl (by simpa using ra), fun _ z => (List.mem_cons.mp z).elim (fun z => na z.symm) ns⟩
    · obtain ⟨_, its, rv, o, e1, hc, m, hd⟩ := ok a _ h1
      obtain ⟨as, ra, ns⟩ := readss_noL ok q nl rv
      exact ⟨as, .tuple e1 hc hd (by simpa using ra), fun _ => ns⟩
    · obtain ⟨ra, ns⟩ := emp_reads (u := .ref a) ok h1 rfl
      exact ⟨_, ra, fun _ => ns⟩
theorem one_reads {P : Program} {w : World} {H : Hp} {h : Heap} {a : Addr} {z : Str} {i : Int} (ok : HOk P w H h) (h1 : H a = some (.dK [(Sum.inr z, .int i)])) : ∃ as, Reads h (.ref a) (.dict [(.str z, .int i)]) as ∧ sysModules ∉ as := by
  obtain ⟨_, ns, vs, kv, o, es, ep, e, hx, hd, _, hp, _⟩ := ok a _ h1
  rcases vs with _ | ⟨⟨k, u⟩, vs⟩
  · cases kv
  cases kv with
  | cons r kv2 =>
    cases kv2
    obtain ⟨ek, t, eu⟩ := r
    have ek : (Sum.inr z : Key) = k := ek
    subst ek
    have eu : u = Value.int i t := eu
    subst eu
    generalize el : es.toList = l at hp
    cases hp with
    | cons h1 h2 h3 =>
      cases h3
      rename_i en
      obtain ⟨t2, hk⟩ := Value.isStrOf_shape (show Value.isStrOf z en.key = true from h1)
      refine ⟨_, .dict (kvs := [(.str z, .int i)]) (as := [] ++ []) (bs := [] ++ []) e hx.1 hd (by rw [el]; show ReadsAll h [en.key] [PyData.str z] _; rw [hk]; exact .cons (.str z t2) .nil) (by rw [el]; show ReadsAll h [en.val] [PyData.int i] _; rw [h2]; exact .cons (.int i t) .nil), fun y => ?_⟩
      have y : sysModules = a := by simpa using y
      rw [← y] at ns
      simp at ns
/-- the text that repr gives -/
inductive ShwD (H : Hp) : V → Str → Prop
  | dat {v : V} {d : PyData} (dv : DV H v d) (sh : d.showable = true) (dp : d.depth ≤ 60) (ln : d.shown.length ≤ sizeLine) (ns : NoS H v d) : ShwD H v d.shown
  | one {a : Addr} {z : Str} {i : Int} (h : H a = some (.dK [(Sum.inr z, .int i)])) (sh : (PyData.dict [(.str z, .int i)]).showable = true) (dp : (PyData.dict [(.str z, .int i)]).depth ≤ 60) (ln : (PyData.dict [(.str z, .int i)]).shown.length ≤ sizeLine) : ShwD H (.ref a) (PyData.dict [(.str z, .int i)]).shown
theorem ShwD.more {H H' : Hp} {v : V} {z : Str} (h : ShwD H v z) (k : Same H H') : ShwD H' v z := by
  cases h with
  | dat dv sh dp ln ns => exact .dat (dv.more k) sh dp ln (ns.more k)
  | one h sh dp ln => exact .one (k _ _ h) sh dp ln
theorem call_reprS {X : Cx} (gd : X.A.guards = some []) (hu : X.A.units + 100 < cLine) : CallR X (.builtin "repr") (fun xs H Q => ∃ v z, xs = [v] ∧ ShwD H v z ∧ Q (.str z) H) := by
  rintro pins s σ H xs us Q I r ⟨v, z, rfl, sh, q⟩
  cases r with
  | cons r0 rr =>
    cases rr
    rename_i u
    have fin : ∀ (h' : Heap) (t : Tok) (tk : Nat), (∀ b o, s.heap.get? b = some o → h'.get? b = some o) → EP X pins σ Q (.str z t) { s with heap := h', toks := tk } :=
      fun h' t tk k => ⟨.str z, H, I.kept (t' := tk) k, ⟨t, rfl⟩, q⟩
    have leaf : EP X pins σ Q (.str z s.toks) { s with heap := s.heap, toks := s.toks + 1 } := fin s.heap s.toks (s.toks + 1) fun _ _ e => e
    cases sh with
    | one h sh dp ln =>
      cases (show u = Value.ref _ from r0)
      obtain ⟨as, rd, ns⟩ := one_reads I.hok h
      exact repr_of_reads' rd sh (fun _ => ns) gd (by omega) (fun _ _ e => e) (fun h' t tk k => fin h' t tk k) ln
    | @dat _ d dv sh dp ln ns =>
      obtain ⟨as, rd, nas⟩ := ns.reads dv I.hok r0
      have viaRef : ∀ (a : Addr), u = .ref a → wpAny (model X.prog X.w) X.A (call (.builtin "repr") [u]) (EP X pins σ Q) X.xe s := by
        rintro a rfl
        exact repr_of_reads' rd sh nas gd (by omega) (fun _ _ e => e) (fun h' t tk k => fin h' t tk k) ln
      cases dv with
      | non =>
        cases (show u = Value.none from r0)
        exact PySem.P.repr_of_none (by simpa only [PyData.shown] using leaf)
      | bl b =>
        cases (show u = Value.bool b from r0)
        exact PySem.P.repr_of_bool (by simpa only [PyData.shown] using leaf)
      | int i =>
        obtain ⟨t, rfl⟩ := r0
        exact PySem.P.repr_of_int (by simpa [PyData.showable] using sh) (by simpa only [PyData.shown] using leaf)
      | str x =>
        obtain ⟨t, rfl⟩ := r0
        exact PySem.P.repr_of_str (by simpa only [PyData.shown] using leaf) (by simpa only [PyData.shown] using ln)
      | lst h1 q1 => exact viaRef _ r0
      | tup h1 q1 => exact viaRef _ r0
      | emp h1 => exact viaRef _ r0
end V1
set_option Elab.async false
set_option linter.all false
set_option maxRecDepth 100000
set_option maxHeartbeats 16000000
/-! A def that shows values and may be called in an except suite; _law_shown. -/
namespace Nv
open PySem PySem.Spec PyProof.Rows L2
/-- FnA, where no value is being shown -/
structure FnB (P : Program) (w : World) (K : PySem.W.Frag) (mg : Str → Option Value) (base : Heap) (k : Nat) (f : Addr) (fd : FuncData) (ps : List Str) (sp : Sp) : Prop where
  many : ∀ vs H Q E, sp vs H Q E → vs.length = ps.length
  does : ∀ (A : Around) (outer : List Env) (s : Shared) (H : Hp) (ar : Args) (us : List Value) (vs : List V) (Q : VK),
    A.guards = some [] → L2H.RoomH k A → Env0 P w K mg base A outer s H → BindsTo s fd ar (ps.zip us) → Vals vs us → sp vs H Q E0 →
    codeAny (model P w) A (.call (.ref f) ar) (CR CX0 outer P w H s Q E0) s
section
variable {P : Program} {w : World} {K : PySem.W.Frag} {mg : Str → Option Value} {base : Heap}
theorem FnB.made {x qual : Str} {st : Stmt} {f : Addr} {fd : FuncData} {N ps : List Str} {k : Nat} {sp : Sp} (F : Fun K x qual st f fd) (S : FnScope N ps (defScope st))
    (many : ∀ vs H Q E, sp vs H Q E → vs.length = ps.length)
    (body : ∀ (cdv : Value) (A : Around) (outer : List Env) (s : Shared) (H : Hp) (vs : List V) (Q : VK), A.guards = some [] →
      L2H.RoomH k (A.deeper (envOfC qual (defScope st) s.heap.objs.size f cdv)) → sp vs H Q E0 →
      ∃ t, PSs (cxA P w K mg base N qual (defScope st) f cdv A outer s H) (defBody st) t ∧ t { nx := fun _ H' => Q .non H', rt := Q } (start N vs) H) :
    FnB P w K mg base (k + 1) f fd ps sp := by
  refine ⟨many, fun A outer s H ar us vs Q gd room env hb rel want => ?_⟩
  obtain ⟨oc, od, kV, doc, pm, an, cdv, ct, osl, rfl, lk, hcd⟩ := F.ex
  obtain ⟨t, der, hq⟩ := body cdv A outer s H vs Q gd (room.deeper _) want
  have inK : K.In s.heap := env.mod.kin.keeps fun b o z => (env.bs b o z).1
  have nolim : s.heap.NoLimit := env.mod.nolimit.keeps fun b o z => (env.bs b o z).1
  refine Att.call_fn inK nolim lk hcd room.depth hb (all_kinds S us) (fun s1 ic => ?_) S.co S.gen S.kind
  have env' : Env0 P w K mg base { A with handled := none } outer s H := { frames := env.frames, mod := env.mod, bs := env.bs, bsz := env.bsz, funs := env.funs, frf := env.frf, hok := env.hok, bare := env.bare }
  have J := inv_start (CX := CX0) (E := E0) (N := N) S rfl env' (many _ _ _ _ want) rel ic
  have o := J.ok
  have o' : (cxA P w K mg base N qual (defScope st) f cdv A outer s H).Ok := { mod := o.mod, kind := o.kind, glob := o.glob, blt := o.blt, above := o.above, inj := o.inj, has := o.has, cab := o.cab, hd := fun z => Bool.noConfusion (show false = true from z), frames := o.frames, stk := o.stk, exf := o.exf, bs := o.bs, bsz := o.bsz, noex := o.noex, exfs := o.exfs, funs := o.funs, frf := o.frf }
  have J' : Inv (cxA P w K mg base N qual (defScope st) f cdv A outer s H) [] (start N vs) H s1 := { ok := o', os := J.os, bare := J.bare, base := J.base, loc := J.loc, cell := J.cell, free := J.free, freeC := J.freeC, pin := J.pin, hok := J.hok, len := J.len }
  refine wpAny_mono (der.run [] s1 _ H _ J' hq) ?_ fun _ _ z => z.elim
  rintro (_ | _ | _ | u) s' z
  · obtain ⟨σ', H', Z, q⟩ := z
    exact ⟨.non, H', Z.os, Z.bare, Z.base, Z.hok, rfl, q⟩
  · obtain ⟨_, _, _, q⟩ := z
    exact q.elim
  · obtain ⟨_, _, _, q⟩ := z
    exact q.elim
  · obtain ⟨v, σ', H', Z, r, q⟩ := z
    exact ⟨v, H', Z.os, Z.bare, Z.base, Z.hok, r, q⟩
end
section
variable {X : Cx} {k : Nat} {f : Addr} {fd : FuncData} {y : Str} {sp : Sp} {x : Str} {p pos : Pos} {e : Expr} {te : TE}
/-- x(e) -/
theorem pe_callFB (F : FnB X.prog X.w X.K X.mg X.base k f fd [y] sp) (gd : X.A.guards = some []) (hr : L2H.RoomH k X.A) (hg : Gl X x) (hm : X.mg x = some (.ref f)) (hk : PySem.W.keepIn X.K (.ref f) = true) (hb : Binds X.K fd [y] []) (he : PE X e te)
    (hs : starEach (e :: []) X.env = (false, eval e X.env) :: starEach [] X.env := by rfl) (hpl : (backTo pos (starEach [] X.env)).any (·.1) = false := by rfl) (hdb : (x == ("__debug__" : Str)) = false := by decide) :
    PE X (.Call (.Name x p) [e] [] pos) (fun σ H Q => te σ H fun v H1 => sp [v] H1 Q E0) := by
  constructor
  intro pins s σ H Q I h
  refine wpAny_Call_Name_kw (ld_glob I hg hm (PySem.W.callWith_K (h₀ := X.base) I.ok.mod.kin hk (thn ((pa_cons he pa_nil hs).run pos pins s σ H (oneA fun v H1 => sp [v] H1 Q E0) I h) ?_) hs hpl) hdb)
  rintro us s1 ⟨vs, H1, I1, r, q0⟩
  obtain ⟨v, rfl, q⟩ := oneA_of q0
  have b := hb s1 us I1.kIn (by rw [List.append_nil, ← r.length]; rfl)
  rw [List.append_nil] at b
  refine ⟨I1.kIn, wpAny_call (codeAny_mono (F.does X.A X.stack s1 H1 ⟨us, []⟩ us [v] Q gd hr I1.env0 b r q) ?_)⟩
  rintro (z | (_ | _ | _ | u)) s2 hz
  · exact hz.elim
  · exact hz.elim
  · exact hz.elim
  · exact hz.elim
  · exact I1.after hz
end
end Nv
namespace V1
open PySem PySem.Spec PyProof.Rows L2 Nv
/-- the text that _law_shown gives -/
inductive ShwV (K : PySem.W.Frag) (CF : Addr) (H : Hp) : V → Str → Prop
  | dat {v : V} {t : Value} {z : Str} (ty : TyX K H v t) (nf : PySem.W.kitOne K t (.ref CF) = some false) (h : ShwD H v z) : ShwV K CF H v z
  | fig {x : Addr} {kvs : List (Key × V)} {ds : List PyData} (h : FigAt CF H x kvs) (dv : DVs H (kvs.map (·.2)) ds) (sh : (PyData.tuple ds).showable = true) (dp : (PyData.tuple ds).depth ≤ 60) (ln : (PyData.tuple ds).shown.length + 10 ≤ sizeLine) (nd : (PyData.tuple ds).hasDict = false) :
      ShwV K CF H (.ref x) (("figure " : Str) ++ (PyData.tuple ds).shown)
theorem FigAt.more {CF : Addr} {H H' : Hp} {x : Addr} {kvs : List (Key × V)} (h : FigAt CF H x kvs) (k : Same H H') : FigAt CF H' x kvs := by
  obtain ⟨dx, tt, hh, h1, h2, h3⟩ := h
  exact ⟨dx, tt, hh, k _ _ h1, k _ _ h2, k _ _ h3⟩
theorem ShwV.more {K : PySem.W.Frag} {CF : Addr} {H H' : Hp} {v : V} {z : Str} (h : ShwV K CF H v z) (k : Same H H') : ShwV K CF H' v z := by
  cases h with
  | dat ty nf h => exact .dat (TyX.more ty k) nf (h.more k)
  | fig h dv sh dp ln nd => exact .fig (h.more k) (dv.more k) sh dp ln nd
def spShown (K : PySem.W.Frag) (CF : Addr) : Sp := fun vs H Q _ => ∃ v z, vs = [v] ∧ ShwV K CF H v z ∧ Q (.str z) H
structure Tsh (mg : Str → Option Value) : Prop where
  rep : mg "repr" = none
section
variable {P : Program} {w : World} {K : PySem.W.Frag} {mg : Str → Option Value} {base : Heap} {CF CH : Addr}
theorem scSh : FnScope ["_law_value"] ["_law_value"] (defScope (top 24)) := ⟨rfl, rfl, rfl, by decide +kernel, rfl, by decide +kernel, by decide +kernel⟩
theorem ok_shown {f : Addr} {fd : FuncData} (F : Fun K "_law_shown" "_law_shown" (top 24) f fd) (T : Ta mg) (R : Tsh mg) (Z : Kf K mg CF CH) : FnB P w K mg base 1 f fd ["_law_value"] (spShown K CF) := by
  refine FnB.made F scSh (fun vs H Q E h => by obtain ⟨v, z, rfl, _⟩ := h; rfl) (fun cdv A outer s H vs Q gd hr h => ?_)
  obtain ⟨v, z, rfl, sh, q⟩ := h
  have hu : (A.deeper (envOfC "_law_shown" (defScope (top 24)) s.heap.objs.size f cdv)).units + 100 < cLine := by
    have := hr.un
    omega
  refine ⟨_, pss_one (ps_ret (pe_ifExp (pt_val (pe_callB call_isi (by rfl) T.isi (by decide +kernel) (pa_cons (pv 0) (pa_cons (pe_glob (v := .ref CF) rfl Z.gF rfl) pa_nil))))
    (pe_op op_add_str pe_str (pe_callB (call_reprS gd hu) (by rfl) R.rep (by decide +kernel) (pa_cons (pe_fld (pv 0) (by rfl)) pa_nil)))
    (pe_callB (call_reprS gd hu) (by rfl) R.rep (by decide +kernel) (pa_cons (pv 0) pa_nil)))), ?_⟩
  cases sh with
  | dat ty nf h => exact ⟨_, rfl, _, .ref CF, _, .ref CF, _, rfl, .own _, ty, nf, _, rfl, _, rfl, v, z, rfl, h, q⟩
  | @fig x kvs ds hf dv sh dp ln nd =>
    obtain ⟨dx, tt, hh, h1, h2, h3⟩ := hf
    refine ⟨_, rfl, _, .ref CF, .ref CF, .ref CF, _, rfl, .own _, .base (.ins h1 Z.cls Z.cc Z.gs Z.tk Z.ob), Z.figF, _, rfl, ?_⟩
    refine ⟨_, rfl, x, CF, dx, _, .ref tt, rfl, h1, Z.cls, Z.nE, rfl, _, _, rfl, .dat (.tup h2 dv) sh dp (by omega) (fun e => by rw [nd] at e; cases e), ?_⟩
    refine ⟨_, _, rfl, rfl, ?_, q⟩
    have : ("figure " : Str).length = 7 := by decide
    omega
end
end V1
set_option Elab.async false
set_option linter.all false
set_option maxRecDepth 100000
set_option maxHeartbeats 16000000
/-! _law_caught. -/
namespace V1
open PySem PySem.Spec PyProof.Rows L2 Nv
theorem call_isK {X : Cx} {K : PySem.W.Frag} (e : X.K = K) : CallR X (.builtin "isinstance") (rIsi K) := by
  subst e
  exact call_isi
theorem pe_appS {X : Cx} {K : PySem.W.Frag} (e0 : X.K = K) {o e : Expr} {apos cpos : Pos} {to : TE} {t : TA} (ho : PE X o to) (ha : PA X [e] t)
    (hbase : attributeBase o "append" X.env (eval o X.env) = eval o X.env := by rfl)
    (hfew : ((backTo cpos (starEach [e] X.env)).all (fun x => !x.1) && (backToKw cpos (keywordEach [] X.env)).all (fun x => x.1.isSome)
      && decide (([e] : List Expr).length + ([] : List Keyword).length + (if ([] : List Keyword).isEmpty then 0 else 1) < 30)) = true := by rfl)
    (hline : (apos.endLine == cpos.line) = true := by rfl) (hs : starEach [e] X.env = (false, eval e X.env) :: starEach [] X.env := by rfl) (hplain : (backTo cpos (starEach [] X.env)).any (·.1) = false := by rfl) :
    PE X (.Call (.Attribute o "append" apos) [e] [] cpos) (tBM K "list" rAppend to t) := by
  subst e0
  exact pe_bm PySem.F.plainAttrs_list PySem.F.slot_list_append PySem.F.type_list_append mt_append ho ha hbase hfew hline hs hplain
def sufs : Stmt → List Stmt
  | .Try _ (.ExceptHandler _ _ b _ :: _) _ _ _ => b
  | _ => []
def cauSuite : List Stmt := sufs ((defBody (top 25)).getD 0 (.Pass ⟨0, 0, 0, 0⟩))
/-- how the classes of exceptions stand to one another -/
structure Tex (K : PySem.W.Frag) (mg : Str → Option Value) (C CT CN : Addr) : Prop where
  e11 : PySem.W.exmOne K (.ref C) (.ref C) = some true
  e21 : PySem.W.exmOne K (.ref CT) (.ref C) = some false
  e22 : PySem.W.exmOne K (.ref CT) (.ref CT) = some true
  gN : mg "NevercrossedError" = some (.ref CN)
def numT (n : Nat) : Str := (PyData.int n).shown
def isEdges (H : Hp) (L : Addr) : Prop := H L = some (.lst [.str "edges", .bl true])
def spCau (K : PySem.W.Frag) (CF CH : Addr) : Sp := fun vs H Q _ => ∃ v, vs = [v] ∧
  ((∃ t z, TyX K H v t ∧ PySem.W.kitOne K t (.ref CH) = some false ∧ PySem.W.kitAny K t seqs = some false ∧ PySem.W.kitOne K t (.type "list") = some false ∧ ShwV K CF H v z ∧ ∀ L H', Same H H' → isEdges H' L → Q (.ref L) H') ∨
   (∃ a xs ds z, v = .ref a ∧ H a = some (.tup xs) ∧ DVs H xs ds ∧ (∀ d ∈ ds, flatP d) ∧ ds.length ≤ 1000 ∧ (∃ d ∈ ds, edgeB d = false) ∧ ShwV K CF H v z ∧ ∀ L H', Same H H' → isEdges H' L → Q (.ref L) H') ∨
   (∃ a xs ds, v = .ref a ∧ H a = some (.lst xs) ∧ DVs H xs ds ∧ (∀ d ∈ ds, flatP d) ∧ ds.length ≤ 1000 ∧ (∃ d ∈ ds, edgeB d = false) ∧ (∀ H', But a H H' → H' a = some (.lst (xs ++ [.str "late"])) → ∃ z, ShwV K CF H' v z) ∧
     ∀ L H', But a H H' → isEdges H' L → Q (.ref L) H') ∨
   (∃ a xs ds, v = .ref a ∧ H a = some (.lst xs) ∧ DVs H xs ds ∧ (∀ d ∈ ds, flatP d) ∧ ds.length ≤ 1000 ∧ (∀ d ∈ ds, edgeB d = true) ∧ ∀ kvs, Good xs ds kvs →
     (kvs.length ≤ 400 → ∀ L H', Same H H' → H' L = some (.lst [.str "told", .str (numT kvs.length)]) → Q (.ref L) H') ∧ (400 < kvs.length → ∀ L H', Same H H' → H' L = some (.lst [.str "large", .str (numT kvs.length)]) → Q (.ref L) H')))
theorem good_len {xs : List V} {ds : List PyData} {kvs : List (Key × V)} (h : xs.length = ds.length) (g : Good xs ds kvs) : kvs.length ≤ ds.length := by
  rw [g.1.length_eq, ← heldI_all h, ← h]
  exact heldI_len h _ (Nat.le_refl _)
section
variable {P : Program} {w : World} {K : PySem.W.Frag} {mg : Str → Option Value} {base : Heap} {C CT CN CF CH fI : Addr} {fdI : FuncData}
theorem scCau : FnScope ["_law_edges_here", "_law_figure", "e", "_law_value"] ["_law_edges_here"] (defScope (top 25)) := ⟨rfl, rfl, rfl, by decide +kernel, rfl, by decide +kernel, by decide +kernel⟩
theorem ok_caught {f fF fS fL : Addr} {fd fdF fdS fdL : FuncData} (F : Fun K "_law_caught" "_law_caught" (top 25) f fd) (T : Ta mg) (TL : mg "list" = none) (R : Tsh mg) (X : Tie K mg C fI) (XT : Ttl K mg CT fI) (Z : Kf K mg CF CH) (EX : Tex K mg C CT CN)
    (M : Mk K CF fF) (GF : FnOk P w K mg base (L2N.CX P w) 5 fF fdF ["self", "edges"] (spFig K CF CH C CT)) (bF : Binds K fdF ["self", "edges"] [])
    (GS : FnB P w K mg base 1 fS fdS ["_law_value"] (spShown K CF)) (AS : At K mg "_law_shown" fS fdS ["_law_value"])
    (GL : FnOk P w K mg base CX0 1 fL fdL ["self"] (spLenF CF)) (bL : Binds K fdL ["self"] []) (hL : PySem.W.findIn K (.ref CF) "__len__" = some (some (.ref fL))) (kL : PySem.W.isFn K (.ref fL) = true) :
    FnG P w K mg base 7 f fd ["_law_edges_here"] (spCau K CF CH) := by
  refine FnG.made F scCau (fun vs H Q E h => by obtain ⟨v, rfl, _⟩ := h; rfl) (fun cdv A outer s H vs Q E gd hr h => ?_)
  obtain ⟨v, rfl, h⟩ := h
  have hu : ∀ h : Option Value, ((A.deeper (envOfC "_law_caught" (defScope (top 25)) s.heap.objs.size f cdv)).mark h).units + 100 < cLine := fun h => by
    have := hr.un
    show (A.deeper (envOfC "_law_caught" (defScope (top 25)) s.heap.objs.size f cdv)).units + 100 < cLine
    omega
  have hu0 : (A.deeper (envOfC "_law_caught" (defScope (top 25)) s.heap.objs.size f cdv)).units + 100 < cLine := hu none
  have rh : ∀ h : Option Value, L2H.RoomH 1 ((A.deeper (envOfC "_law_caught" (defScope (top 25)) s.heap.objs.size f cdv)).mark h) := fun h => ⟨(hr.mono (by decide : 1 ≤ 6)).dp, (hr.mono (by decide : 1 ≤ 6)).un⟩
  refine ⟨_, (pss_cons (NvN.ps_try_hds (X := (cxOf CX0 P w K mg base ["_law_edges_here", "_law_figure", "e", "_law_value"] "_law_caught" (defScope (top 25)) f cdv A outer s H E).nox) (Wout := fun _ _ _ _ => False) rfl rfl scCau.nd takesN0
    (fun W pn xe tk _ => pss_one (ps_set (i := 1) scCau.nd rfl (Or.inl rfl) (pe_makeS M GF hr rfl Z.gF bF (L2N.passAt tk) (pa_cons (pv 0) pa_nil))))
    (.named (i := 2) (c := .ref C) ⟨rfl, by decide, .inl X.gl⟩ rfl rfl (fun a oe cls d pn hz hf nb =>
      (show PSs (Cx.suite ((cxOf CX0 P w K mg base ["_law_edges_here", "_law_figure", "e", "_law_value"] "_law_caught" (defScope (top 25)) f cdv A outer s H E).nox) a ((a, oe) :: pn)) cauSuite _ from pss_cons (ps_set (i := 3) scCau.nd rfl (Or.inl rfl) (pe_xf (C := C) X.xc.fl X.xc.mx.nov hz.zc hf (pv 2)))
      (pss_cons (ps_if (pt_val (pe_callB (call_isK (K := K) rfl) (by rfl) T.isi (by decide +kernel) (pa_cons (pv 0) (pa_cons (pe_bltn (v := .ty "list") (u := .type "list") (by rfl) TL (by decide +kernel) rfl) pa_nil)))) (pss_one (ps_expr (pe_appS (K := K) rfl (pv 0) (pa_cons pe_str pa_nil)))) pss_nil)
      (pss_one (ps_ret (pe_lst (pa_cons pe_str (pa_cons (pe_cmpR op_eq (pe_callFB GS gd (rh _) rfl AS.g AS.k AS.b (pv 3)) (pe_callFB GS gd (rh _) rfl AS.g AS.k AS.b (pv 0)) (nomark _)) pa_nil))))))))
    (.named (i := 2) (c := .ref CT) ⟨rfl, by decide, .inl XT.gl⟩ rfl rfl (fun a oe cls d pn hz hf nb => pss_one (ps_ret (pe_lst (pa_cons pe_str (pa_cons (pe_callB (call_reprD (X := Cx.suite _ a ((a, oe) :: pn)) gd (hu _)) (by rfl) R.rep (by decide +kernel) (pa_cons (pe_xf (C := CT) XT.xc.fl XT.xc.mx.nov hz.zc hf (pv 2)) pa_nil)) pa_nil)))))
    (.bare (c := .ref CN) ⟨rfl, by decide, .inl EX.gN⟩ (fun a oe cls d pn hz hf nb => pss_one (ps_ret (pe_lst (pa_cons pe_str (pa_cons pe_str pa_nil))))) .nil))))
    (pss_one (ps_ret (pe_lst (pa_cons pe_str (pa_cons (pe_callB (call_reprD gd hu0) (by rfl) R.rep (by decide +kernel) (pa_cons (pe_callB (call_lenF GL (hr.mono (by decide)).in1 bL hL kL) (by rfl) T.len (by decide +kernel) (pa_cons (pv 1) pa_nil)) pa_nil)) pa_nil)))))), ?_⟩
  change tAsg (tMakeS CF (spFig K CF CH C CT) (WE (wHds _ _ _ _)) (tCons (tVar 0) tNil)) (gName 1) _ _ _
  generalize hW : wHds _ _ _ _ = W
  have same : ∀ z : Str, decide (V.str z = V.str z) = true := fun z => decide_eq_true rfl
  have hN : ∀ t z, TyX K H v t → PySem.W.kitOne K t (.type "list") = some false → ShwV K CF H v z → (∀ L H', Same H H' → isEdges H' L → Q (.ref L) H') → ∀ dx H1, Same H H1 → XD H1 dx v → W (.ref C) (some dx) (L2.start ["_law_edges_here", "_law_figure", "e", "_law_value"] [v]) H1 := by
    intro t z ty kl sh q dx H1 s1 hd
    obtain ⟨n, hd⟩ := hd
    rw [← hW]
    refine ⟨true, EX.e11, fun _ ax na => ?_, fun z => nomatch z⟩
    refine ⟨_, rfl, rfl, rfl, dx, _, v, rfl, hd, rfl, ?_⟩
    refine ⟨_, rfl, _, .ty "list", t, .type "list", false, rfl, .ty _, TyX.more ty s1, kl, _, rfl, ?_⟩
    refine ⟨_, rfl, v, z, rfl, sh.more s1, _, rfl, v, z, rfl, sh.more s1, rfl, (by show 2 ≤ sizeLine; decide), fun L nL => q L _ (fun b o e => stay (s1 b o e) nL) ?_⟩
    rw [same]
    exact upd_same
  have kitL : PySem.W.kitAny K (.type "list") seqs = some true := rfl
  have kitT : PySem.W.kitAny K (.type "tuple") seqs = some true := by
    have e1 : PySem.W.kitOne K (.type "tuple") (.type "list") = some false := kit_ty (by decide +kernel)
    have e2 : PySem.W.kitOne K (.type "tuple") (.type "tuple") = some true := rfl
    simp only [seqs, PySem.W.kitAny, e1, e2]
  have kTL : PySem.W.kitOne K (.type "tuple") (.type "list") = some false := kit_ty (by decide +kernel)
  refine ⟨_, rfl, fun y dy ny ndy ne => ?_⟩
  have s0 : Same H (upd (upd H dy (.own y)) y (.ins CF dy [])) := fun b o e => stay (stay e ndy) (by rw [upd_ne (Ne.symm ne)]; exact ny)
  have hy : upd (upd H dy (.own y)) y (.ins CF dy []) y = some (.ins CF dy []) := upd_same
  generalize upd (upd H dy (.own y)) y (.ins CF dy []) = H0 at s0 hy
  have nobad : ∀ {ds : List PyData} {p : Prop}, (∃ d ∈ ds, edgeB d = false) → (∀ d ∈ ds, edgeB d = true) → p := fun ⟨d, hd, e⟩ all => by
    rw [all d hd] at e
    cases e
  rcases h with ⟨t, z, ty, kh, ks, kl, sh, q⟩ | ⟨a, xs, ds, z, rfl, ha, dv, fl, ln, bad, sh, q⟩ | ⟨a, xs, ds, rfl, ha, dv, fl, ln, bad, sh, q⟩ | ⟨a, xs, ds, rfl, ha, dv, fl, ln, good, q⟩
  · exact ⟨y, dy, v, t, false, rfl, hy, TyX.more ty s0, kh, ks, fun _ dx H1 s1 hd => hN t z ty kl sh q dx H1 (fun b o e => s1 _ _ (s0 b o e)) hd, fun e => nomatch e⟩
  · exact ⟨y, dy, .ref a, .type "tuple", true, rfl, hy, .base (.tup (s0 _ _ ha)), Z.heldT _ (by decide), kitT, (fun e => nomatch e), fun _ => ⟨a, xs, ds, rfl, ⟨.inr (s0 _ _ ha), dv.more s0, fl, ln⟩, fun _ dx H1 s1 hd => hN (.type "tuple") z (.base (.tup ha)) kTL sh q dx H1 (fun b o e => s1 _ _ (s0 b o e)) hd, fun all => nobad bad all⟩⟩
  · refine ⟨y, dy, .ref a, .type "list", true, rfl, hy, .base (.lst (s0 _ _ ha)), Z.heldT _ (by decide), kitL, (fun e => nomatch e), fun _ => ⟨a, xs, ds, rfl, ⟨.inl (s0 _ _ ha), dv.more s0, fl, ln⟩, fun _ dx H1 s1 hd => ?_, fun all => nobad bad all⟩⟩
    have s1 : Same H H1 := fun b o e => s1 _ _ (s0 b o e)
    obtain ⟨n, hd⟩ := hd
    have ha1 := s1 _ _ ha
    rw [← hW]
    refine ⟨true, EX.e11, fun _ ax na => ?_, fun z => nomatch z⟩
    refine ⟨_, rfl, rfl, rfl, dx, _, .ref a, rfl, hd, rfl, ?_⟩
    refine ⟨_, rfl, _, .ty "list", .type "list", .type "list", true, rfl, .ty _, .base (.lst ha1), rfl, _, rfl, ?_⟩
    have lx := dv.length
    refine ⟨_, rfl, .inl ⟨rfl, _, SqL.of ha1⟩, a, xs, _, rfl, rfl, ha1, Nat.lt_of_le_of_lt (show xs.length ≤ 1001 by omega) (by decide), ?_⟩
    have b2 : But a H (upd H1 a (.lst (xs ++ [.str "late"]))) := fun c o nc e => by rw [upd_ne nc]; exact s1 _ _ e
    obtain ⟨z, sz⟩ := sh _ b2 upd_same
    refine ⟨_, rfl, .ref a, z, rfl, sz, _, rfl, .ref a, z, rfl, sz, rfl, (by show 2 ≤ sizeLine; decide), fun L nL => q L _ (fun c o nc e => stay (b2 c o nc e) nL) ?_⟩
    rw [same]
    exact upd_same
  · refine ⟨y, dy, .ref a, .type "list", true, rfl, hy, .base (.lst (s0 _ _ ha)), Z.heldT _ (by decide), kitL, (fun e => nomatch e), fun _ => ⟨a, xs, ds, rfl, ⟨.inl (s0 _ _ ha), dv.more s0, fl, ln⟩, fun bad => nobad bad good, fun _ kvs gd => ⟨fun big dx H1 s1 hd => ?_, fun few H1 bt fig => ⟨rfl, ?_⟩⟩⟩⟩
    · obtain ⟨n, hd⟩ := hd
      have kl := good_len dv.length gd
      rw [← hW]
      refine ⟨false, EX.e21, (fun z => nomatch z), fun _ => ⟨true, EX.e22, fun _ ax na => ?_, fun z => nomatch z⟩⟩
      refine ⟨_, rfl, rfl, rfl, dx, _, .int kvs.length, rfl, hd, rfl, _, .int kvs.length, rfl, .int _, nice_int (Nat.lt_of_le_of_lt (show (kvs.length : Int).natAbs ≤ 1000 by omega) (by decide)), (by show 2 ≤ sizeLine; decide), fun L nL => ?_⟩
      exact (q kvs gd).2 big L _ (fun b o e => stay (s1 _ _ (s0 b o e)) nL) upd_same
    · obtain ⟨dx, tt, hh, h1, h2, h3⟩ := fig
      have kl := good_len dv.length gd
      refine ⟨_, rfl, y, dx, _, rfl, h1, y, kvs, rfl, ⟨dx, tt, hh, h1, h2, h3⟩, kvs.length, rfl, Nat.lt_of_le_of_lt (show kvs.length ≤ 1000 by omega) (by decide), ?_⟩
      refine ⟨_, .int kvs.length, rfl, .int _, nice_int (Nat.lt_of_le_of_lt (show (kvs.length : Int).natAbs ≤ 1000 by omega) (by decide)), (by show 2 ≤ sizeLine; decide), fun L nL => ?_⟩
      refine (q kvs gd).1 few L _ (fun b o e => stay (bt b o (fun z => ?_) (s0 b o e)) nL) upd_same
      rw [z, ny] at e
      cases e
end
end V1
set_option Elab.async false
set_option linter.all false
set_option maxRecDepth 100000
set_option maxHeartbeats 16000000
namespace V1
open PySem PySem.Spec PyProof.Rows L2 Nv DL
local macro_rules | `(tactic| walk_at "evs") => `(tactic| repeat (first
  | exact ev_c | exact ev_n rfl | exact evk0 | exact eva0 | apply evk1 | apply eva_nm rfl | apply eva_ex | apply ev_ks | apply ev_ops | apply ev_ch | apply evt_v | apply evt_not
  | exact fe_addI | exact fe_addL sz | exact fe_I0 | exact fe_B | exact fe_eqI | exact fe_neI | exact fe_eqS | exact fe_neS | exact fe_neg | exact fe_abs | exact fe_lst sz | exact fe_tup sz | exact fe_lenL | exact fe_lenT | exact fe_listL | exact fe_listT | exact fe_tupL | exact fe_isN | exact fe_ixT rfl | exact fe_ixL rfl | exact fe_slLT | exact fe_slHT | exact fe_slLL | exact fe_slHL))

def fOddE : Nat → List D0 → (D0 → Nat → Prop) → Prop := fun m ds q => ∃ u : Unit, ds = [] ∧ m ≤ 900000 ∧ ∀ d m', OddE d → m' ≤ m + 6 → q d m'
section
variable {P : Program} {w : World} {K : PySem.W.Frag} {mg : Str → Option Value} {base : Heap}
theorem scOE : FnScope ["_law_box_here", "_law_x", "_law_y", "_law_some", "_law_far"] ["_law_box_here"] (defScope (top 26)) := ⟨rfl, rfl, rfl, by decide +kernel, rfl, by decide +kernel, by decide +kernel⟩
theorem tail_oddE {f : Addr} {cdv : Value} {A : Around} {outer : List Env} {s : Shared} {H : Hp} {E : XK} (hr : Room 1 (A.deeper (envOfC "_law_odd" (defScope (top 26)) s.heap.objs.size f cdv))) (B : Bi mg) {fT : Addr} {fdT : FuncData} (GT : FnOk P w K mg base CX0 1 fT fdT ["_law_box_here", "_law_many_here"] spTk) (AT : AtV K mg "_law_take" fT fdT ["_law_box_here", "_law_many_here"]) : ∃ T, PSs (cxOf CX0 P w K mg base ["_law_box_here", "_law_x", "_law_y", "_law_some", "_law_far"] "_law_odd" (defScope (top 26)) f cdv A outer s H E).nox ((defBody (top 26)).drop 1) (upS K W0 T) ∧ ∀ (D : EndsD Empty) (bp : Addr) (m : Nat) (x y : Int), m ≤ 950000 → 0 ≤ x → x ≤ 30 → 0 ≤ y → y ≤ 30 →
    (∀ d m' γ, OddE d → m' ≤ m + 4 → γ[0]? = some (some (.box bp m')) → D.rt d γ) → T D [some (.box bp m), some (.dat (.int x)), some (.dat (.int y)), none, none] := by
  have hu64 : (A.deeper (envOfC "_law_odd" (defScope (top 26)) s.heap.objs.size f cdv)).units + 64 < cLine := by
    have := hr.un
    omega
  have hu65 : (A.deeper (envOfC "_law_odd" (defScope (top 26)) s.heap.objs.size f cdv)).units + 65 < cLine := by
    have := hr.un
    omega
  refine ⟨_, (sdc (ds_set (ps_set (i := 3) scOE.nd rfl (Or.inl rfl) (pf_pe (pf_lst (pk1 (pd_tup (pk1 (pd_tup (pk1 (pd_name (pv 1)) (pk1 (pd_name (pv 2)) pk0))) (pk1 (pd_tup (pk1 (pd_name (pv 1)) (pk1 (pd_name (pv 2)) pk0))) pk0))) (pk1 (pd_tup (pk1 (pd_tup (pk1 (pd_name (pv 1)) (pk1 (pd_name (pv 2)) pk0))) (pk1 (pd_tup (pk1 (pd_bin op_addA od_add (po_name (pv 1)) (po_ex pd_int)) (pk1 (pd_name (pv 2)) pk0))) pk0))) (pk1 (pd_tup (pk1 (pd_tup (pk1 (pd_name (pv 1)) (pk1 (pd_name (pv 2)) pk0))) (pk1 (pd_tup (pk1 (pd_bin op_addA od_add (po_name (pv 1)) (po_ex pd_int)) (pk1 (pd_bin op_addA od_add (po_name (pv 2)) (po_ex pd_int)) pk0))) pk0))) pk0)))))))
    (sdc (ds_set (ps_set (i := 3) scOE.nd rfl (Or.inl rfl) (pd_bin op_addA od_add (po_name (pv 3)) (po_ex (pf_pe (pf_lst (pk1 (pd_tup (pk1 (pd_tup (pk1 (pd_bin op_addA od_add (po_name (pv 1)) (po_ex pd_int)) (pk1 (pd_name (pv 2)) pk0))) (pk1 (pd_tup (pk1 (pd_name (pv 1)) (pk1 (pd_name (pv 2)) pk0))) pk0))) (pk1 (pd_tup (pk1 (pd_tup (pk1 (pd_name (pv 1)) (pk1 (pd_bin op_addA od_add (po_name (pv 2)) (po_ex pd_int)) pk0))) (pk1 (pd_tup (pk1 (pd_name (pv 1)) (pk1 (pd_name (pv 2)) pk0))) pk0))) pk0))))))))
    (sdc (ds_set (ps_set (i := 3) scOE.nd rfl (Or.inl rfl) (pd_bin op_addA od_add (po_name (pv 3)) (po_ex (pf_pe (pf_lst (pk1 (pd_tup (pk1 (pd_tup (pk1 (pd_name (pv 1)) (pk1 pd_int pk0))) (pk1 (pd_tup (pk1 (pd_name (pv 1)) (pk1 pd_int pk0))) pk0))) (pk1 (pd_tup (pk1 (pd_tup (pk1 pd_int (pk1 (pd_name (pv 2)) pk0))) (pk1 (pd_tup (pk1 pd_int (pk1 (pd_name (pv 2)) pk0))) pk0))) (pk1 (pd_tup (pk1 (pd_tup (pk1 (pd_un un_neg od_neg (po_ex pd_int)) (pk1 (pd_name (pv 2)) pk0))) (pk1 (pd_tup (pk1 pd_int (pk1 (pd_name (pv 2)) pk0))) pk0))) pk0)))))))))
    (sdc (ds_set (ps_set (i := 3) scOE.nd rfl (Or.inl rfl) (pd_bin op_addA od_add (po_name (pv 3)) (po_ex (pf_pe (pf_lst (pk1 (pd_tup (pk1 (pd_tup (pk1 (pd_name (pv 1)) (pk1 (pd_un un_neg od_neg (po_ex pd_int)) pk0))) (pk1 (pd_tup (pk1 (pd_name (pv 1)) (pk1 pd_int pk0))) pk0))) (pk1 (pd_tup (pk1 (pd_name (pv 1)) (pk1 (pd_name (pv 2)) pk0))) (pk1 (pd_tup (pk1 (pd_tup (pk1 (pd_name (pv 1)) (pk1 (pd_name (pv 2)) pk0))) pk0)) (pk1 pd_non pk0))))))))))
    (sdc (ds_set (ps_set (i := 3) scOE.nd rfl (Or.inl rfl) (pd_bin op_addA od_add (po_name (pv 3)) (po_ex (pf_pe (pf_lst (pk1 (pf_pe (pf_lst (pk1 (pd_tup (pk1 pd_int (pk1 pd_int pk0))) (pk1 (pd_tup (pk1 pd_int (pk1 pd_int pk0))) pk0)))) (pk1 (pd_tup (pk1 (pd_tup (pk1 pd_int (pk1 pd_int pk0))) (pk1 (pd_tup (pk1 pd_bl (pk1 pd_int pk0))) pk0))) (pk1 (pd_tup (pk1 (pd_tup (pk1 pd_bl (pk1 pd_int pk0))) (pk1 (pd_tup (pk1 pd_int (pk1 pd_int pk0))) pk0))) pk0)))))))))
    (sdc (ds_set (ps_set (i := 3) scOE.nd rfl (Or.inl rfl) (pd_bin op_addA od_add (po_name (pv 3)) (po_ex (pf_pe (pf_lst (pk1 (pd_tup (pk1 pd_str (pk1 pd_str pk0))) (pk1 (pd_tup (pk1 (pd_tup (pk1 pd_int (pk1 pd_int pk0))) (pk1 (pd_tup (pk1 pd_int (pk1 pd_int pk0))) (pk1 (pd_tup (pk1 pd_int (pk1 pd_int pk0))) pk0)))) (pk1 pd_dnew pk0)))))))))
    (sdc (ds_set (ps_set (i := 3) scOE.nd rfl (Or.inl rfl) (pd_bin op_addA od_add (po_name (pv 3)) (po_ex (pf_pe (pf_lst (pk1 (pd_tup (pk1 (pd_tup (pk1 pd_int (pk1 pd_int pk0))) (pk1 (pf_pe (pf_lst (pk1 pd_int (pk1 pd_int pk0)))) pk0))) (pk1 (pd_tup (pk1 (pf_pe (pf_lst (pk1 pd_int (pk1 pd_int pk0)))) (pk1 (pd_tup (pk1 pd_int (pk1 pd_int pk0))) pk0))) (pk1 (pd_tup (pk1 (pd_tup (pk1 pd_int (pk1 pd_int (pk1 pd_int pk0)))) (pk1 (pd_tup (pk1 pd_int (pk1 pd_int pk0))) pk0))) pk0)))))))))
    (sdc (ds_set (ps_set (i := 3) scOE.nd rfl (Or.inl rfl) (pd_bin op_addA od_add (po_name (pv 3)) (po_ex (pf_pe (pf_lst (pk1 pd_str (pk1 pd_int (pk1 (pd_tup (pk1 (pd_tup (pk1 (pd_tup (pk1 pd_int (pk1 pd_int pk0))) (pk1 (pd_tup (pk1 pd_int (pk1 pd_int pk0))) pk0))) pk0)) (pk1 (pd_tup (pk1 (pd_tup (pk1 pd_int pk0)) (pk1 (pd_tup (pk1 pd_int pk0)) pk0))) pk0))))))))))
    (sdc (ds_set (ps_set (i := 4) scOE.nd rfl (Or.inl rfl) (pd_tup (pk1 (pd_tup (pk1 (pd_name (pv 1)) (pk1 (pd_name (pv 2)) pk0))) (pk1 (pd_tup (pk1 (pd_bin op_addA od_add (po_name (pv 1)) (po_ex (pd_take (pe_call GT (hr.mono (by decide)) rfl AT.g AT.k AT.b .nil pass0 (pa_cons (pv 0) (pk1 pd_int pk0)))))) (pk1 (pd_bin op_sub od_I20 (po_ex (pd_bin op_addA od_add (po_name (pv 2)) (po_ex (pd_take (pe_call GT (hr.mono (by decide)) rfl AT.g AT.k AT.b .nil pass0 (pa_cons (pv 0) (pk1 pd_int pk0))))))) (po_ex pd_int)) pk0))) pk0)))))
    (sdc (ds_if (PW.pt (pwd_and (pt_c (op_eqA hu64) od_eq (po_ex (pd_take (pe_call GT (hr.mono (by decide)) rfl AT.g AT.k AT.b .nil pass0 (pa_cons (pv 0) (pk1 pd_int pk0))))) (po_ex pd_int) (nomark _)) (pwd_and1 (pt_c (op_neA hu64) od_ne (po_ex (pd_bin op_addA od_add (po_ex (pd_cb (pe_callB call_abs (by rfl) B.abs (by decide +kernel) (pa1 (po_ex (pd_bin op_sub od_I20 (po_ex (pd_ix ix_A od_ix (po_ex (pd_ix ix_A od_ix (po_name (pv 4)) (po_ex pd_int))) (po_ex pd_int))) (po_name (pv 1)))) pa0)) od_abs)) (po_ex (pd_cb (pe_callB call_abs (by rfl) B.abs (by decide +kernel) (pa1 (po_ex (pd_bin op_sub od_I20 (po_ex (pd_ix ix_A od_ix (po_ex (pd_ix ix_A od_ix (po_name (pv 4)) (po_ex pd_int))) (po_ex pd_int))) (po_name (pv 2)))) pa0)) od_abs)))) (po_ex pd_int) (nomark _)))))
    (sd1 (ds_ret (pd_name (pv 4))))
    sd0)
    (sd1 (ds_ret (pd_ix ix_A od_ix (po_name (pv 3)) (po_ex (pd_take (pe_call GT (hr.mono (by decide)) rfl AT.g AT.k AT.b .nil pass0 (pa_cons (pv 0) (pk1 pd_int pk0)))))))))))))))))), ?_⟩
  intro D bp m x y hm x0 x1 y0 y1 h
  refine sq (es_set (by walk_at "evs") rfl) ?_
  refine sq (es_set (by walk_at "evs") rfl) ?_
  refine sq (es_set (by walk_at "evs") rfl) ?_
  refine sq (es_set (by walk_at "evs") rfl) ?_
  refine sq (es_set (by walk_at "evs") rfl) ?_
  refine sq (es_set (by walk_at "evs") rfl) ?_
  refine sq (es_set (by walk_at "evs") rfl) ?_
  refine sq (es_set (by walk_at "evs") rfl) ?_
  show dSeq _ _ _ [some (.box bp m), some (.dat (.int x)), some (.dat (.int y)), some (.dat (.lst (oddsE x y))), none]
  have fin : ∀ far : Sl Empty, dRet (tOps [Opn.nm 3, Opn.ex (tTk 0 (tC' (Dat.int 25)))] fIx) D [some (.box bp (m + 1 + 1 + 1)), some (.dat (.int x)), some (.dat (.int y)), some (.dat (.lst (oddsE x y))), some far] := fun far => by
    refine nd_opsN rfl take_mono (ap_take rfl ev_c ⟨by omega, by decide, by decide⟩ (fun r r0 r1 => ?_))
    obtain ⟨d, hd, od⟩ := odds_all x0 x1 y0 y1 r0 r1
    exact ⟨_, rfl, d, hd, h d (m + 1 + 1 + 1 + 1) _ od (by omega) rfl⟩
  refine sq_setN (nd_ks2 (ev_use (by walk_at "evs") (nd_ks2 (nd_opsN rfl take_mono (ap_take rfl ev_c ⟨by omega, by decide, by decide⟩ (fun r r0 r1 => ⟨_, rfl, ?_⟩))))))
  refine nd_ops2 (nd_opsN rfl take_mono (ap_take rfl ev_c ⟨by omega, by decide, by decide⟩ (fun s s0 s1 => ⟨_, rfl, ?_⟩)))
  refine ⟨sz, sz, ?_⟩
  show dSeq _ _ _ [some (.box bp (m + 1 + 1)), some (.dat (.int x)), some (.dat (.int y)), some (.dat (.lst (oddsE x y))), some (.dat (.tup [p2 x y, p2 (x + r) (y + s - 3)]))]
  refine sq_ifN ?_
  refine ⟨⟨by omega, by decide, by decide⟩, fun t t0 t1 => ite2 (fun c1 => ?_) (fun c1 => ?_)⟩
  · show tB' _ [some (.box bp (m + 1 + 1 + 1)), some (.dat (.int x)), some (.dat (.int y)), some (.dat (.lst (oddsE x y))), some (.dat (.tup [p2 x y, p2 (x + r) (y + s - 3)]))] _
    refine (evt_v (by walk_at "evs") : EvT _ _ _ _) _ ?_
    refine ite2 (fun c2 => ?_) (fun c2 => fin _)
    refine h (.tup [p2 x y, p2 (x + r) (y + s - 3)]) (m + 1 + 1 + 1) _ ?_ (by omega) rfl
    have c3 : ¬ ((if x + r - x < 0 then -(x + r - x) else x + r - x) + (if y + s - 3 - y < 0 then -(y + s - 3 - y) else y + s - 3 - y) = 1) := fun e => by
      have c2 : (!decide ((if x + r - x < 0 then -(x + r - x) else x + r - x) + (if y + s - 3 - y < 0 then -(y + s - 3 - y) else y + s - 3 - y) = 1)) = true := c2
      rw [decide_eq_true e] at c2
      cases c2
    refine odd_ed (by omega) (by omega) (by omega) (by omega) ?_ ?_ <;> (intro hh; apply c3; obtain ⟨e1, e2, _⟩ := hh; split <;> split <;> omega)
  · exact fin _
theorem ok_oddE {f : Addr} {fd : FuncData} (F : Fun K "_law_odd" "_law_odd" (top 26) f fd) (B : Bi mg) {fT : Addr} {fdT : FuncData} (GT : FnOk P w K mg base CX0 1 fT fdT ["_law_box_here", "_law_many_here"] spTk) (AT : AtV K mg "_law_take" fT fdT ["_law_box_here", "_law_many_here"]) : FnOk P w K mg base CX0 2 f fd ["_law_box_here"] (DL.spB K W0 fOddE) := by
  refine fnB F scOE (fun m ds q h => ?_) fun cdv A outer s H E hr => ?_
  · obtain ⟨_, rfl, _⟩ := h
    rfl
  have hu64 : (A.deeper (envOfC "_law_odd" (defScope (top 26)) s.heap.objs.size f cdv)).units + 64 < cLine := by
    have := hr.un
    omega
  have hu65 : (A.deeper (envOfC "_law_odd" (defScope (top 26)) s.heap.objs.size f cdv)).units + 65 < cLine := by
    have := hr.un
    omega
  obtain ⟨TT, HT, go⟩ := tail_oddE (P := P) (w := w) (mg := mg) (base := base) (f := f) (cdv := cdv) (A := A) (outer := outer) (s := s) (H := H) (E := E) hr B GT AT
  refine ⟨_, (sdc (ds_par (i := 1) (j := 2) (ps_par (i := 1) (j := 2) rfl scOE.nd rfl rfl (by decide) rfl rfl (pk1 (pd_take (pe_call GT (hr.mono (by decide)) rfl AT.g AT.k AT.b .nil pass0 (pa_cons (pv 0) (pk1 pd_int pk0)))) (pk1 (pd_take (pe_call GT (hr.mono (by decide)) rfl AT.g AT.k AT.b .nil pass0 (pa_cons (pv 0) (pk1 pd_int pk0)))) pk0)) (by rfl)))
    HT), ?_⟩
  rintro bp m ds q ⟨_, rfl, hm, h⟩
  refine ⟨⟨by omega, by decide, by decide⟩, fun x x0 x1 => ⟨⟨by omega, by decide, by decide⟩, fun y y0 y1 => ?_⟩⟩
  exact go _ bp (m + 1 + 1) x y (by omega) x0 (by omega) y0 (by omega) fun d m' γ od hm' h0 => ⟨m', h0, h d m' od (by omega)⟩
end
end V1
set_option Elab.async false
set_option linter.all false
set_option maxRecDepth 100000
set_option maxHeartbeats 16000000
/-! Between the data layer and the heap; what stands while the box or a list changes. -/
namespace V1
open PySem PySem.Spec PyProof.Rows L2 Nv
/-! ### between the two layers -/
theorem BoxAt.le {H : Hp} {p : Addr} {m m' : Int} (h : BoxAt H p m) (le : m ≤ m') : BoxAt H p m' := by
  obtain ⟨b0, b1, b2, h1, h2, h3, h4, h5⟩ := h
  exact ⟨b0, b1, b2, h1, h2, h3, h4, by omega⟩
theorem BoxAt.more {H H' : Hp} {p : Addr} {m : Int} (k : Same H H') (h : BoxAt H p m) : BoxAt H' p m := by
  obtain ⟨b0, b1, b2, h1, h2⟩ := h
  exact ⟨b0, b1, b2, k _ _ h1, h2⟩
theorem BoxAt.some {H : Hp} {p : Addr} {m : Int} (h : BoxAt H p m) : ∃ o, H p = some o := by
  obtain ⟨b0, b1, b2, h1, h2⟩ := h
  exact ⟨_, h1⟩
theorem BoxAt.ne {H : Hp} {p a : Addr} {m : Int} (h : BoxAt H p m) (n : H a = none) : a ≠ p := fun e => by
  obtain ⟨o, q⟩ := h.some
  rw [← e, n] at q
  cases q
theorem but_tr {p : Addr} {a b c : Hp} (h : But p a b) (k : But p b c) : But p a c := fun x o n e => k x o n (h x o n e)
theorem but_of {p : Addr} {a b : Hp} (h : Same a b) : But p a b := fun x o _ e => h x o e
mutual
theorem dv_nv {K : PySem.W.Frag} {g : DL.Gh Empty} {H : Hp} (s : DL.Subs W0 g H) : ∀ {v : V} {d : D0} {p : PyData}, DL.DV K g v d → DL.py d = some p → Nv.DV H v p
  | _, _, _, .non, e => by cases e; exact .non
  | _, _, _, .bl b, e => by cases e; exact .bl b
  | _, _, _, .int i, e => by cases e; exact .int i
  | _, _, _, .str x, e => by cases e; exact .str x
  | _, _, _, .lst (ds := ds) h r, e => by
    unfold DL.py at e
    cases h2 : DL.pys ds with
    | none => rw [h2] at e; cases e
    | some ps =>
      rw [h2] at e
      cases e
      exact .lst (DL.Real.ho s h) (dvs_nv s r h2)
  | _, _, _, .tup (ds := ds) h r, e => by
    unfold DL.py at e
    cases h2 : DL.pys ds with
    | none => rw [h2] at e; cases e
    | some ps =>
      rw [h2] at e
      cases e
      exact .tup (DL.Real.ho s h) (dvs_nv s r h2)
  | _, _, _, .dK h l r, e => by cases e
  | _, _, _, .dT h l r, e => by cases e
  | _, _, _, .obj h, e => by cases e
theorem dvs_nv {K : PySem.W.Frag} {g : DL.Gh Empty} {H : Hp} (s : DL.Subs W0 g H) : ∀ {vs : List V} {ds : List D0} {ps : List PyData}, DL.DVs K g vs ds → DL.pys ds = some ps → Nv.DVs H vs ps
  | _, _, _, .nil, e => by cases e; exact .nil
  | _, _, _, .cons (d := d) (ds := ds) h r, e => by
    unfold DL.pys at e
    cases h1 : DL.py d with
    | none => rw [h1] at e; cases e
    | some p =>
      cases h2 : DL.pys ds with
      | none => rw [h1, h2] at e; cases e
      | some ps =>
        rw [h1, h2] at e
        cases e
        exact .cons (dv_nv s h h1) (dvs_nv s r h2)
end
theorem dv_nvE {K : PySem.W.Frag} {g : DL.Gh Empty} {H : Hp} (s : DL.Subs W0 g H) {v : V} {d : D0} {p : PyData} (h : DL.DV K g v d) (e : pyE d = some p) : Nv.DV H v p := by
  cases h with
  | dK h l r =>
    rename_i a ks xs ds
    cases ks with
    | nil =>
      cases xs with
      | nil =>
        cases r
        cases e
        exact .emp (DL.Real.ho s h)
      | cons _ _ => cases l
    | cons _ _ => cases ds <;> cases e
  | non => exact dv_nv (K := K) s (DL.DV.non : DL.DV K g _ _) e
  | bl b => exact dv_nv (K := K) s (.bl b : DL.DV K g _ _) e
  | int i => exact dv_nv (K := K) s (.int i : DL.DV K g _ _) e
  | str x => exact dv_nv (K := K) s (.str x : DL.DV K g _ _) e
  | lst h r => exact dv_nv (K := K) s (.lst h r : DL.DV K g _ _) e
  | tup h r => exact dv_nv (K := K) s (.tup h r : DL.DV K g _ _) e
  | dT h l r => cases e
  | obj h => cases e
/-- the tuples -/
def gT (H : Hp) : DL.Gh Empty := fun a => match H a with
  | some (.tup xs) => some (.ho (.tup xs))
  | _ => none
def fT (H : Hp) : Hp := fun a => match H a with
  | some (.tup _) => none
  | o => o
theorem gT_at {H : Hp} {a : Addr} {xs : List V} (h : H a = some (.tup xs)) : gT H a = some (.ho (.tup xs)) := by
  unfold gT
  rw [h]
theorem of_gT {H : Hp} {a : Addr} {o : DL.GO Empty} (h : gT H a = some o) : ∃ xs, H a = some (.tup xs) ∧ o = .ho (.tup xs) := by
  unfold gT at h
  split at h
  · rename_i xs e
    cases h
    exact ⟨xs, e, rfl⟩
  · cases h
theorem gT_sub {H : Hp} : DL.Subs W0 (gT H) H := fun a o h => by
  obtain ⟨xs, e, rfl⟩ := of_gT h
  exact .inl e
theorem fT_fr {H : Hp} {a : Addr} {o : HO} (h : fT H a = some o) : H a = some o ∧ gT H a = none := by
  unfold fT at h
  unfold gT
  split at h
  · cases h
  · rename_i n
    refine ⟨h, ?_⟩
    first
      | rfl
      | (split
         · rename_i xs e
           exact absurd e (n xs)
         · rfl)
theorem same_of {H H' : Hp} {g' : DL.Gh Empty} (le : DL.Le (gT H) g') (fr : DL.Frm W0 (fT H) g' H') : Same H H' := fun a o h => by
  by_cases ht : ∃ xs, o = .tup xs
  · obtain ⟨xs, rfl⟩ := ht
    exact DL.Real.ho fr.sub (le _ _ (gT_at h))
  · have : fT H a = some o := by
      unfold fT
      rw [h]
      split
      · rename_i xs e
        exact absurd ⟨xs, Option.some.inj e⟩ ht
      · rfl
    exact (fr.fr a o this).1
theorem but_of' {H H' : Hp} {p : Addr} {g' : DL.Gh Empty} (le : DL.Le (gT H) g') (fr : DL.Frm W0 (fun a => if a = p then none else fT H a) g' H') : But p H H' := fun a o ne h => by
  by_cases ht : ∃ xs, o = .tup xs
  · obtain ⟨xs, rfl⟩ := ht
    exact DL.Real.ho fr.sub (le _ _ (gT_at h))
  · have : fT H a = some o := by
      unfold fT
      rw [h]
      split
      · rename_i xs e
        exact absurd ⟨xs, Option.some.inj e⟩ ht
      · rfl
    exact (fr.fr a o (by simp only [if_neg ne]; exact this)).1
theorem box_nt {H : Hp} {p : Addr} {m : Int} (b : BoxAt H p m) : gT H p = none := by
  obtain ⟨b0, b1, b2, h, _⟩ := b
  unfold gT
  rw [h]
mutual
theorem dv_uniq {H : Hp} : ∀ {v : V} {d d' : PyData}, DV H v d → DV H v d' → d = d'
  | _, _, _, .non, .non => rfl
  | _, _, _, .bl _, .bl _ => rfl
  | _, _, _, .int _, .int _ => rfl
  | _, _, _, .str _, .str _ => rfl
  | _, _, _, .lst h r, .lst h' r' => by
    rw [h] at h'
    cases h'
    rw [dvs_uniq r r']
  | _, _, _, .lst h r, .tup h' r' => by rw [h] at h'; cases h'
  | _, _, _, .lst h r, .emp h' => by rw [h] at h'; cases h'
  | _, _, _, .tup h r, .lst h' r' => by rw [h] at h'; cases h'
  | _, _, _, .tup h r, .tup h' r' => by
    rw [h] at h'
    cases h'
    rw [dvs_uniq r r']
  | _, _, _, .tup h r, .emp h' => by rw [h] at h'; cases h'
  | _, _, _, .emp h, .lst h' r' => by rw [h] at h'; cases h'
  | _, _, _, .emp h, .tup h' r' => by rw [h] at h'; cases h'
  | _, _, _, .emp h, .emp h' => rfl
theorem dvs_uniq {H : Hp} : ∀ {vs : List V} {ds ds' : List PyData}, DVs H vs ds → DVs H vs ds' → ds = ds'
  | _, _, _, .nil, .nil => rfl
  | _, _, _, .cons h r, .cons h' r' => by rw [dv_uniq h h', dvs_uniq r r']
end
mutual
theorem dv_but {H H' : Hp} {a : Addr} {D : PyData} (hD : DV H (.ref a) D) (k : But a H H') : ∀ {v : V} {d : PyData}, DV H v d → d.depth < D.depth → DV H' v d
  | _, _, .non, _ => .non
  | _, _, .bl b, _ => .bl b
  | _, _, .int i, _ => .int i
  | _, _, .str x, _ => .str x
  | _, _, .lst (a := b) (ds := ds) h r, l => by
    have ne : b ≠ a := fun e => by
      subst e
      rw [dv_uniq (.lst h r) hD] at l
      exact Nat.lt_irrefl _ l
    refine .lst (k _ _ ne h) (dvs_but hD k r ?_)
    have : (PyData.list ds).depth = PyData.depthAll ds + 1 := rfl
    omega
  | _, _, .tup (a := b) (ds := ds) h r, l => by
    have ne : b ≠ a := fun e => by
      subst e
      rw [dv_uniq (.tup h r) hD] at l
      exact Nat.lt_irrefl _ l
    refine .tup (k _ _ ne h) (dvs_but hD k r ?_)
    have : (PyData.tuple ds).depth = PyData.depthAll ds + 1 := rfl
    omega
  | _, _, .emp (a := b) h, l => by
    have ne : b ≠ a := fun e => by
      subst e
      rw [dv_uniq (.emp h) hD] at l
      exact Nat.lt_irrefl _ l
    exact .emp (k _ _ ne h)
theorem dvs_but {H H' : Hp} {a : Addr} {D : PyData} (hD : DV H (.ref a) D) (k : But a H H') : ∀ {vs : List V} {ds : List PyData}, DVs H vs ds → PyData.depthAll ds < D.depth → DVs H' vs ds
  | _, _, .nil, _ => .nil
  | _, _, .cons (d := d) (ds := ds) h r, l => by
    have e : PyData.depthAll (d :: ds) = max d.depth (PyData.depthAll ds) := rfl
    exact .cons (dv_but hD k h (by omega)) (dvs_but hD k r (by omega))
end

/-! ### data of tuples alone -/
mutual
/-- no list and no dict stands in it -/
def imm : PyData → Bool
  | .list _ => false
  | .dict _ => false
  | .tuple l => imms l
  | _ => true
def imms : List PyData → Bool
  | [] => true
  | d :: r => imm d && imms r
end
def Tk (H H' : Hp) : Prop := ∀ a xs, H a = some (.tup xs) → H' a = some (.tup xs)
theorem Same.tk {H H' : Hp} (k : Same H H') : Tk H H' := fun a xs e => k _ _ e
theorem Tk.tr {a b c : Hp} (h : Tk a b) (k : Tk b c) : Tk a c := fun x xs e => k _ _ (h _ _ e)
theorem but_tk {p : Addr} {H H' : Hp} (k : But p H H') (n : ∀ xs, H p ≠ some (.tup xs)) : Tk H H' := fun a xs e => k _ _ (fun z => n xs (by rw [← z]; exact e)) e
mutual
theorem dv_tk {H H' : Hp} (k : Tk H H') : ∀ {v : V} {d : PyData}, DV H v d → imm d = true → DV H' v d
  | _, _, .non, _ => .non
  | _, _, .bl b, _ => .bl b
  | _, _, .int i, _ => .int i
  | _, _, .str x, _ => .str x
  | _, _, .lst h r, n => by simp [imm] at n
  | _, _, .tup h r, n => .tup (k _ _ h) (dvs_tk k r (by simpa [imm] using n))
  | _, _, .emp h, n => by simp [imm] at n
theorem dvs_tk {H H' : Hp} (k : Tk H H') : ∀ {vs : List V} {ds : List PyData}, DVs H vs ds → imms ds = true → DVs H' vs ds
  | _, _, .nil, _ => .nil
  | _, _, .cons (d := d) (ds := ds) h r, n => by
    have n : imm d = true ∧ imms ds = true := by simpa [imms] using n
    exact .cons (dv_tk k h n.1) (dvs_tk k r n.2)
end
theorem imms_all : ∀ {l : List PyData}, (∀ x ∈ l, imm x = true) → imms l = true
  | [], _ => by simp [imms]
  | x :: r, h => by simp [imms, h x List.mem_cons_self, imms_all fun y hy => h y (List.mem_cons_of_mem _ hy)]
theorem noLs_all : ∀ {l : List PyData}, (∀ x ∈ l, noL x = true) → noLs l = true
  | [], _ => by simp [noLs]
  | x :: r, h => by simp [noLs, h x List.mem_cons_self, noLs_all fun y hy => h y (List.mem_cons_of_mem _ hy)]
/-- an edge as data -/
def ptP (p : Pt) : PyData := .tuple [.int p.1, .int p.2]
def eP (e : Eg) : PyData := .tuple [ptP e.1, ptP e.2]
theorem py_eD (e : Eg) : DL.py (eD e) = some (eP e) := rfl
theorem py_es : ∀ es : List Eg, DL.pys (es.map eD) = some (es.map eP)
  | [] => rfl
  | e :: r => by
    show DL.pys (eD e :: r.map eD) = _
    unfold DL.pys
    rw [py_eD, py_es r]
    rfl
theorem eP_imm (e : Eg) : imm (eP e) = true := by simp [eP, ptP, imm, imms]
theorem eP_noL (e : Eg) : noL (eP e) = true := by simp [eP, ptP, noL, noLs]
theorem eP_dict (e : Eg) : (eP e).hasDict = false := rfl
theorem eP_depth (e : Eg) : (eP e).depth = 2 := rfl
theorem eP_cap (e : Eg) : cap (eP e) = 185 := rfl
theorem ptB_of {p : Pt} (h : onP p = true) : ptB (ptP p) = true := by
  simp only [onP, Bool.and_eq_true, decide_eq_true_eq] at h
  obtain ⟨⟨h1, h2⟩, h3, h4⟩ := h
  simp [ptP, ptB, cooB, intB, h1, h2, h3, h4]
theorem edB_on {e : Eg} (h : edB e = true) : onP e.1 = true ∧ onP e.2 = true ∧ (e.2 = (e.1.1, e.1.2 + 1) ∨ e.2 = (e.1.1 + 1, e.1.2)) := by
  simp only [edB, Bool.and_eq_true, Bool.or_eq_true, decide_eq_true_eq] at h
  exact ⟨h.1.1, h.1.2, h.2⟩
theorem edgeB_of {e : Eg} (h : edB e = true) : edgeB (eP e) = true := by
  obtain ⟨h1, h2, h3⟩ := edB_on h
  show (ptB (ptP e.1) && (ptB (ptP e.2) && stepB (ptP e.1) (ptP e.2))) = true
  rw [ptB_of h1, ptB_of h2]
  obtain ⟨⟨x, y⟩, u, v⟩ := e
  rcases h3 with h3 | h3 <;> (simp only [Prod.mk.injEq] at h3; obtain ⟨rfl, rfl⟩ := h3; simp [stepB, ptP, xOf, yOf]; try exact decide_eq_true (by omega))
theorem eP_ok {e : Eg} (h : edB e = true) : okD (eP e) := by
  obtain ⟨h1, h2, h3⟩ := edB_on h
  simp only [onP, Bool.and_eq_true, decide_eq_true_eq] at h1 h2
  simp only [eP, ptP, okD, okDs]
  exact ⟨⟨okI (by omega), okI (by omega), trivial⟩, ⟨okI (by omega), okI (by omega), trivial⟩, trivial⟩
theorem eP_flat {e : Eg} (h : edB e = true) : flatP (eP e) := fun p r z => by
  obtain ⟨h1, h2, h3⟩ := edB_on h
  simp only [onP, Bool.and_eq_true, decide_eq_true_eq] at h2
  have er : r = ptP e.2 := by
    have := PyData.tuple.inj z
    simp only [List.cons.injEq] at this
    exact this.2.1.symm
  subst er
  refine ⟨rfl, ?_⟩
  show ((ptP e.2).canLay0 && decide ((ptP e.2).depth ≤ 64)) = true
  rw [lay_of _ (by simp only [ptP, okD, okDs]; exact ⟨okI (by omega), okI (by omega), trivial⟩) rfl]
  rfl
def spEdges : Sp := fun vs H Q _ => ∃ (p : Addr) (m : Nat) (most : Int), vs = [.ref p, .int most] ∧ BoxAt H p (m : Int) ∧ 1 ≤ most ∧ most ≤ 10 ∧ m ≤ 900000 ∧
  ∀ (a : Addr) (xs : List V) (es : List Eg) (H' : Hp), (∀ e ∈ es, edB e = true) → es.length ≤ 250 → But p H H' → BoxAt H' p ((m + 300 : Nat) : Int) → H' a = some (.lst xs) → DVs H' xs (es.map eP) → H a = none → Q (.ref a) H'
def spOddH : Sp := fun vs H Q _ => ∃ (p : Addr) (m : Nat), vs = [.ref p] ∧ BoxAt H p (m : Int) ∧ m ≤ 900000 ∧
  ∀ (v : V) (pd : PyData) (H' : Hp), OddQ pd → (∀ H'', But p H' H'' → DV H'' v pd) → But p H H' → BoxAt H' p ((m + 6 : Nat) : Int) → Q v H'
theorem edges_weak {K : PySem.W.Frag} : ∀ vs H Q E, spEdges vs H Q E → DL.spB K W0 fEdges vs H Q E := fun vs H Q E ⟨p, m, most, e, b, h1, h2, h3, q⟩ => by
  refine ⟨fun a => if a = p then none else fT H a, gT H, p, m, [.int most], [.int most], fun d m' => ∃ es : List Eg, d = .lst (es.map eD) ∧ (∀ e ∈ es, edB e = true) ∧ es.length ≤ 250 ∧ m' ≤ m + 300, e, ⟨gT_sub, fun a o ha => ?_⟩, if_pos rfl, box_nt b, b, .cons (.int _) .nil, ⟨most, rfl, ⟨h1, h2, h3⟩, fun es m' h4 h5 h6 => ⟨es, rfl, h4, h5, h6⟩⟩, ?_⟩
  · by_cases z : a = p
    · simp only [if_pos z] at ha
      cases ha
    · simp only [if_neg z] at ha
      exact fT_fr ha
  · rintro d m' v g' H' ⟨es, rfl, ed, ln, hm⟩ le fr gn bx dv
    have bx' : BoxAt H' p ((m + 300 : Nat) : Int) := BoxAt.le (m := (m' : Int)) bx (by omega)
    cases dv with
    | lst h r =>
      rename_i a xs
      refine q a xs es H' ed ln (but_of' le fr) bx' (DL.Real.ho fr.sub h) (dvs_nv fr.sub r (py_es es)) ?_
      have ne : a ≠ p := fun z => by rw [z, gn] at h; cases h
      cases ho : H a with
      | none => rfl
      | some o =>
        by_cases ht : ∃ ys, o = .tup ys
        · obtain ⟨ys, rfl⟩ := ht
          have := le _ _ (gT_at ho)
          rw [h] at this
          cases this
        · have fb : (fun a => if a = p then none else fT H a) a = some o := by
            simp only [if_neg ne]
            unfold fT
            rw [ho]
            split
            · rename_i ys e
              exact absurd ⟨ys, Option.some.inj e⟩ ht
            · rfl
          have := (fr.fr a o fb).2
          rw [h] at this
          cases this
theorem odd_weak {K : PySem.W.Frag} : ∀ vs H Q E, spOddH vs H Q E → DL.spB K W0 fOddE vs H Q E := fun vs H Q E ⟨p, m, e, b, hm, q⟩ => by
  refine ⟨fun a => if a = p then none else fT H a, gT H, p, m, [], [], fun d m' => OddE d ∧ m' ≤ m + 6, e, ⟨gT_sub, fun a o ha => ?_⟩, if_pos rfl, box_nt b, b, .nil, ⟨(), rfl, hm, fun d m' h1 h2 => ⟨h1, h2⟩⟩, ?_⟩
  · by_cases z : a = p
    · simp only [if_pos z] at ha
      cases ha
    · simp only [if_neg z] at ha
      exact fT_fr ha
  · rintro d m' v g' H' ⟨⟨pd, hpd, od⟩, hm'⟩ le fr gn bx dv
    refine q v pd H' od (fun H'' k => dv_nvE (K := K) (g := g') (fun a o h => ?_) dv hpd) (but_of' le fr) (BoxAt.le (m := (m' : Int)) bx (by omega))
    have ne : a ≠ p := fun z => by rw [z, gn] at h; cases h
    have := fr.sub a o h
    cases o with
    | ho u => exact this.imp (k _ _ ne) fun ⟨i, ob, e⟩ => ⟨i, ob, k _ _ ne e⟩
    | ob u =>
      obtain ⟨_, _, w⟩ := this
      exact w.elim
end V1
set_option Elab.async false
set_option linter.all false
set_option maxRecDepth 100000
set_option maxHeartbeats 16000000
/-! What is handed to _law_caught. -/
namespace V1
open PySem PySem.Spec PyProof.Rows L2 Nv
/-- the script stands at a, apart from the box at p -/
inductive Far (K : PySem.W.Frag) (H : Hp) (a : Addr) (xs : List V) (p : Addr) : Prop
  | wr (h : ∀ H, SqL K H a xs)
  | tr {o : HO} (h : H a = some o) (k : o = .lst xs ∨ ∃ ob, o = .frz ob (.lst xs)) (ne : a ≠ p)
theorem Far.seq {K : PySem.W.Frag} {H : Hp} {a p : Addr} {xs : List V} (f : Far K H a xs p) : SqL K H a xs := by
  rcases f with h | ⟨h, k, _⟩
  · exact h H
  · rcases k with rfl | ⟨ob, rfl⟩
    · exact .inl (.inl h)
    · exact .inl (.inr ⟨ob, h⟩)
theorem Far.of {K : PySem.W.Frag} {H H' : Hp} {a p : Addr} {xs : List V} (h : SqL K H a xs) (hp : H p = none) (k : Same H H') : Far K H' a xs p := by
  rcases h with (h | ⟨o, h⟩) | h
  · exact .tr (k _ _ h) (.inl rfl) (fun e => by rw [e, hp] at h; cases h)
  · exact .tr (k _ _ h) (.inr ⟨o, rfl⟩) (fun e => by rw [e, hp] at h; cases h)
  · exact .wr fun _ => .inr h
theorem Far.but {K : PySem.W.Frag} {H H' : Hp} {a p : Addr} {xs : List V} (f : Far K H a xs p) (k : But p H H') : Far K H' a xs p := by
  rcases f with h | ⟨h, q, ne⟩
  · exact .wr h
  · exact .tr (k _ _ ne h) q ne
/-- past a thing that was made behind H -/
theorem Far.past {K : PySem.W.Frag} {H H1 H2 : Hp} {a p b : Addr} {xs : List V} (f : Far K H a xs p) (n : ∀ o, H b = some o → ∃ ys, o = .tup ys) (k1 : But p H H1) (k2 : But b H1 H2) : Far K H2 a xs p := by
  rcases f with h | ⟨h, q, ne⟩
  · exact .wr h
  · refine .tr (k2 _ _ (fun e => ?_) (k1 _ _ ne h)) q ne
    subst e
    obtain ⟨ys, e⟩ := n _ h
    rcases q with q | ⟨ob, q⟩
    · rw [q] at e
      cases e
    · rw [q] at e
      cases e
theorem box_but {H H' : Hp} {p b : Addr} {m : Int} (h : BoxAt H p m) (ne : b ≠ p) (k : But b H H') : BoxAt H' p m := by
  obtain ⟨b0, b1, b2, h1, h2⟩ := h
  exact ⟨b0, b1, b2, k _ _ (Ne.symm ne) h1, h2⟩
theorem dvs_take {H : Hp} : ∀ {vs : List V} {ds : List PyData} (n : Nat), DVs H vs ds → DVs H (vs.take n) (ds.take n)
  | _, _, 0, _ => .nil
  | _, _, n + 1, .nil => .nil
  | _, _, n + 1, .cons h r => .cons h (dvs_take n r)
theorem dvs_app {H : Hp} : ∀ {vs us : List V} {ds es : List PyData}, DVs H vs ds → DVs H us es → DVs H (vs ++ us) (ds ++ es)
  | _, _, _, _, .nil, k => k
  | _, _, _, _, .cons h r, k => .cons h (dvs_app r k)
theorem sh_told {z t : Str} (hz : PyData.strOk z = true) (ht : PyData.strOk t = true) : SeqAt.shaped (.list [.str z, .str t]) = true ∧ (PyData.list [.str z, .str t]).hasDict = false := by
  refine ⟨?_, rfl⟩
  show ((PyData.strOk z && (PyData.strOk t && true)) && decide (max 0 (max 0 0) + 1 ≤ 64)) = true
  rw [hz, ht]
  rfl

theorem dvs_drop {H : Hp} : ∀ {vs : List V} {ds : List PyData} (n : Nat), DVs H vs ds → DVs H (vs.drop n) (ds.drop n)
  | _, _, 0, h => h
  | _, _, n + 1, .nil => .nil
  | _, _, n + 1, .cons _ r => dvs_drop n r
/-- two lists to a new one, which is not the interpreter's own table -/
def rCatS : R2 := fun x y H Q => ∃ l b xs zs, x = .ref l ∧ y = .ref b ∧ H l = some (.lst xs) ∧ H b = some (.lst zs) ∧ xs.length + zs.length ≤ sizeLine ∧ ∀ p, H p = none → p ≠ sysModules → Q (.ref p) (upd H p (.lst (xs ++ zs)))
theorem op_catS {X : Cx} : OpR X (binaryOp .Add) rCatS := by
  rintro pins s σ H x y v u Q I rx ry ⟨l, b, xs, zs, rfl, rfl, h1, h2, few, q⟩
  cases (show v = Value.ref l from rx)
  cases (show u = Value.ref b from ry)
  obtain ⟨n1, as, k1, r1, l1, e1⟩ := I.lstM h1
  obtain ⟨n2, bs, k2, r2, l2, e2⟩ := I.lstM h2
  have sum : as.toArray ++ bs.toArray = (as ++ bs).toArray := by simp
  refine PySem.P.add_list e1 e2 ?_ (by simp only [List.size_toArray]; omega)
  rw [sum]
  refine ⟨.ref s.heap.objs.size, _, I.lnew (t' := s.toks) (r1.append r2) (by simp only [List.length_append]; omega), rfl, q _ I.fresh fun e => ?_⟩
  have := sys_lt I
  rw [← e] at this
  exact Nat.lt_irrefl _ this
/-- what an item of a handed list may be -/
structure Item (d : PyData) : Prop where
  ok : okD d
  dp : d.depth ≤ 5
  cp : cap d ≤ 10000
  fl : flatP d
theorem item_e {e : Eg} (h : edB e = true) : Item (eP e) := ⟨eP_ok h, by rw [eP_depth]; decide, by rw [eP_cap]; decide, eP_flat h⟩
theorem item_o {pd : PyData} (o : OddQ pd) : Item pd := ⟨o.ok, o.dp, o.cp, o.flat⟩
theorem item_n : Item .none := ⟨by simp [okD], by show 0 ≤ 5; decide, by show 4 ≤ 10000; decide, fun p r e => by cases e⟩
theorem item_s : Item (.str "late") := ⟨by simp only [okD]; exact ⟨by decide, by decide +kernel⟩, by show 0 ≤ 5; decide, by show 1002 ≤ 10000; decide, fun p r e => by cases e⟩
/-- where a dict stands, no list does -/
def Apart (ds : List PyData) : Prop := PyData.hasDictAll ds = true → noLs ds = true
theorem shown_list {H : Hp} {a : Addr} {xs : List V} {ds : List PyData} (h : H a = some (.lst xs)) (dv : DVs H xs ds) (it : ∀ d ∈ ds, Item d) (ln : ds.length ≤ 500) (ap : Apart ds) (ns : a ≠ sysModules) : ShwD H (.ref a) (PyData.list ds).shown := by
  have ok : okD (.list ds) := by simp only [okD]; exact okDs_all fun x hx => (it x hx).ok
  have dp := depth_all (n := 5) fun x hx => (it x hx).dp
  have cp := caps_all (n := 10000) fun x hx => (it x hx).cp
  refine .dat (.lst h dv) (shows_of _ ok) (by show PyData.depthAll ds + 1 ≤ 60; omega) (Nat.le_trans (shown_le _ ok) ?_) fun z => ⟨a, xs, ds, rfl, dv, ap z, .inl ⟨h, ns, rfl⟩⟩
  show caps ds + 2 ≤ sizeLine
  exact Nat.le_trans (show caps ds + 2 ≤ 5100000 by omega) (by decide)
theorem shown_tup {H : Hp} {a : Addr} {xs : List V} {ds : List PyData} (h : H a = some (.tup xs)) (dv : DVs H xs ds) (it : ∀ d ∈ ds, Item d) (ln : ds.length ≤ 500) (ap : Apart ds) : ShwD H (.ref a) (PyData.tuple ds).shown := by
  have ok : okD (.tuple ds) := by simp only [okD]; exact okDs_all fun x hx => (it x hx).ok
  have dp := depth_all (n := 5) fun x hx => (it x hx).dp
  have cp := caps_all (n := 10000) fun x hx => (it x hx).cp
  refine .dat (.tup h dv) (shows_of _ ok) (by show PyData.depthAll ds + 1 ≤ 60; omega) (Nat.le_trans (shown_le _ ok) ?_) fun z => ⟨a, xs, ds, rfl, dv, ap z, .inr (.inl ⟨h, rfl⟩)⟩
  show caps ds + 3 ≤ sizeLine
  exact Nat.le_trans (show caps ds + 3 ≤ 5100000 by omega) (by decide)
theorem apart_of {ds : List PyData} {pd : PyData} (o : OddQ pd) (h : ∀ d ∈ ds, d = pd ∨ d = .none ∨ (∃ s, d = .str s) ∨ ∃ e, d = eP e) : Apart ds := fun z => by
  cases hd : pd.hasDict with
  | true =>
    have := o.dic hd
    subst this
    exact noLs_all fun d hd => by
      rcases h d hd with rfl | rfl | ⟨s, rfl⟩ | ⟨e, rfl⟩
      · rfl
      · rfl
      · rfl
      · exact eP_noL e
  | false =>
    have : PyData.hasDictAll ds = false := flat_all fun d hd' => by
      rcases h d hd' with rfl | rfl | ⟨s, rfl⟩ | ⟨e, rfl⟩
      · exact hd
      · rfl
      · rfl
      · exact eP_dict e
    rw [this] at z
    cases z
end V1
set_option Elab.async false
set_option linter.all false
set_option maxRecDepth 100000
set_option maxHeartbeats 16000000
/-! A turn of the law: an odd thing among the edges. -/
namespace V1
open PySem PySem.Spec PyProof.Rows L2 Nv
def forBody : Stmt → List Stmt
  | .For _ _ b _ _ => b
  | _ => []
def lawOuter : List Stmt := forBody ((defBody (top 28)).getD 0 (.Pass ⟨0, 0, 0, 0⟩))
def lawTurn : List Stmt := forBody (lawOuter.getD 2 (.Pass ⟨0, 0, 0, 0⟩))
def lawN : List Str := ["_law_script", "_law_k", "_law_box_here", "_law_edges_here", "_law_turn", "_law_odd_here", "_law_at", "_law_more", "_law_handed", "_law_some", "_law_value"]
/-- the box, the script, the edges stand -/
structure In4 (K : PySem.W.Frag) (H : Hp) (a : Addr) (ns : List Int) (p : Addr) (m : Nat) (ae : Addr) (xs : List V) (es : List Eg) : Prop where
  far : Far K H a (ns.map V.int) p
  box : BoxAt H p (m : Int)
  at_ : H ae = some (.lst xs)
  dv : DVs H xs (es.map eP)
  ne : ae ≠ p
  ed : ∀ e ∈ es, edB e = true
  ln : es.length ≤ 250
section
variable {K : PySem.W.Frag} {H H' H1 H2 : Hp} {a p ae : Addr} {ns : List Int} {m m' : Nat} {xs : List V} {es : List Eg}
theorem box_notup {z : Int} (b : BoxAt H p z) : ∀ ys, H p ≠ some (.tup ys) := fun ys e => by
  obtain ⟨c0, c1, c2, g, _⟩ := b
  rw [g] at e
  cases e
theorem es_imm (es : List Eg) : imms (es.map eP) = true := imms_all fun d hd => by
  obtain ⟨e, _, rfl⟩ := List.mem_map.mp hd
  exact eP_imm e
theorem In4.boxed (i : In4 K H a ns p m ae xs es) (k : But p H H') (b : BoxAt H' p (m' : Int)) : In4 K H' a ns p m' ae xs es :=
  ⟨i.far.but k, b, k _ _ i.ne i.at_, dvs_tk (but_tk k (box_notup i.box)) i.dv (es_imm es), i.ne, i.ed, i.ln⟩
theorem In4.same (i : In4 K H a ns p m ae xs es) (k : Same H H') : In4 K H' a ns p m ae xs es :=
  ⟨i.far.but (but_of k), i.box.more k, k _ _ i.at_, i.dv.more k, i.ne, i.ed, i.ln⟩
theorem In4.le (i : In4 K H a ns p m ae xs es) (h : m ≤ m') : In4 K H a ns p m' ae xs es := ⟨i.far, i.box.le (by omega), i.at_, i.dv, i.ne, i.ed, i.ln⟩
theorem In4.past {b : Addr} {ys : List V} (i : In4 K H a ns p m ae xs es) (n : H b = none) (k1 : But p H H1) (b1 : BoxAt H1 p (m' : Int)) (hb : H1 b = some (.lst ys)) (k2 : But b H1 H2) : In4 K H2 a ns p m' ae xs es := by
  have nbp : b ≠ p := i.box.ne n
  have nbe : ae ≠ b := fun e => by rw [← e, i.at_] at n; cases n
  have t1 : Tk H H1 := but_tk k1 (box_notup i.box)
  have t2 : Tk H1 H2 := but_tk k2 fun zs e => by rw [hb] at e; cases e
  exact ⟨i.far.past (fun o e => by rw [n] at e; cases e) k1 k2, box_but b1 nbp k2, k2 _ _ nbe (k1 _ _ i.ne i.at_), dvs_tk (t1.tr t2) i.dv (es_imm es), i.ne, i.ed, i.ln⟩
end
section
variable {P : Program} {w : World} {K : PySem.W.Frag} {mg : Str → Option Value} {base : Heap} {f : Addr} {cdv : Value} {A : Around} {outer : List Env} {s : Shared} {H0 : Hp} {E : XK} {CF CH : Addr}
theorem scLaw : FnScope lawN ["_law_script"] (defScope (top 28)) := ⟨rfl, rfl, rfl, by decide +kernel, rfl, by decide +kernel, by decide +kernel⟩
abbrev XL (P : Program) (w : World) (K : PySem.W.Frag) (mg : Str → Option Value) (base : Heap) (f : Addr) (cdv : Value) (A : Around) (outer : List Env) (s : Shared) (H0 : Hp) (E : XK) : Cx := (cxOf CX0 P w K mg base lawN "law" (defScope (top 28)) f cdv A outer s H0 E).nox
section
theorem hand_ok {sp : Sp} (hr : Room 8 (A.deeper (envOfC "law" (defScope (top 28)) s.heap.objs.size f cdv))) (gd : (A.deeper (envOfC "law" (defScope (top 28)) s.heap.objs.size f cdv)).guards = some [])
    {fC : Addr} {fdC : FuncData} (GC : FnG P w K mg base 7 fC fdC ["_law_edges_here"] sp) (AC : At K mg "_law_caught" fC fdC ["_law_edges_here"]) :
    ∃ t, PSs (XL P w K mg base f cdv A outer s H0 E) (lawTurn.drop 4) t ∧ ∀ (D : Ends) (σ : L2.St) (v : V) (H : Hp), σ[8]? = some (some v) → (∀ Q E', (∀ L H', isEdges H' L → (∀ H'', Same H' H'' → D.nx σ H'') → Q (.ref L) H') → sp [v] H Q E') → t D σ H := by
  have hu64 : (A.deeper (envOfC "law" (defScope (top 28)) s.heap.objs.size f cdv)).units + 64 < cLine := by
    have := hr.un
    omega
  refine ⟨_, (pss_one (ps_if (pt_cmpR (op_neD hu64) (pe_callG GC gd (hr.mono (by decide)) rfl AC.g AC.k AC.b (pa_cons (pv 8) pa_nil)) (pe_lst (pa_cons pe_str (pa_cons pe_bl pa_nil))) (by rfl)) (pss_one (ps_ret pe_bl)) pss_nil)), ?_⟩
  intro D σ v H hv h
  refine ⟨v, hv, ?_⟩
  show sp [v] H _ E0
  refine h _ _ fun L H' he q => ⟨(by show 2 ≤ sizeLine; decide), fun L2 n2 => ?_⟩
  have he2 : upd H' L2 (.lst [.str "edges", .bl true]) L = some (.lst [.str "edges", .bl true]) := stay he n2
  refine ⟨.list [.str "edges", .bool true], .list [.str "edges", .bool true], .lst (SqL.of he2) (.cons (.str _) (.cons (.bl _) .nil)), .lst (SqL.of upd_same) (.cons (.str _) (.cons (.bl _) .nil)), by decide +kernel, by decide +kernel, _, rfl, ifF (by decide +kernel) ?_⟩
  exact q _ fun b o e => stay e n2
end
end
end V1
set_option Elab.async false
set_option linter.all false
set_option maxRecDepth 100000
set_option maxHeartbeats 16000000
/-! A whole turn of the law. -/
namespace V1
open PySem PySem.Spec PyProof.Rows L2 Nv
theorem cut_front {xs : List V} {k : Nat} : cutV xs none (some (k : Int)) = xs.take k := by
  unfold cutV
  rw [HT.sIx_none, HT.sIx_nat, List.drop_zero, Nat.sub_zero]
  by_cases h : k ≤ xs.length
  · rw [Nat.min_eq_left h]
  · rw [Nat.min_eq_right (by omega), List.take_of_length_le (Nat.le_refl _), List.take_of_length_le (by omega)]
theorem cut_back {xs : List V} {k : Nat} (h : k ≤ xs.length) : cutV xs (some (k : Int)) none = xs.drop k := by
  unfold cutV
  rw [HT.sIx_none, HT.sIx_nat, Nat.min_eq_left h]
  exact List.take_of_length_le (by rw [List.length_drop]; exact Nat.le_refl _)
/-- what is handed: the edges, an odd thing among them -/
def handD (es : List Eg) (k : Nat) (mo : List PyData) : List PyData := (es.map eP).take k ++ mo ++ (es.map eP).drop k
theorem hand_mem {es : List Eg} {k : Nat} {mo : List PyData} {d : PyData} (h : d ∈ handD es k mo) : d ∈ mo ∨ ∃ e ∈ es, d = eP e := by
  unfold handD at h
  rcases List.mem_append.mp h with h | h
  · rcases List.mem_append.mp h with h | h
    · obtain ⟨e, he, rfl⟩ := List.mem_map.mp (List.mem_of_mem_take h)
      exact .inr ⟨e, he, rfl⟩
    · exact .inl h
  · obtain ⟨e, he, rfl⟩ := List.mem_map.mp (List.mem_of_mem_drop h)
    exact .inr ⟨e, he, rfl⟩
theorem hand_len {es : List Eg} {k : Nat} {mo : List PyData} (h : es.length ≤ 250) (hm : mo.length ≤ 2) : (handD es k mo).length ≤ 252 := by
  unfold handD
  simp only [List.length_append, List.length_take, List.length_drop, List.length_map]
  omega
/-- the odd thing alone, or with None -/
def OddL (pd : PyData) (mo : List PyData) : Prop := mo = [pd] ∨ mo = [pd, .none]
theorem OddL.mem {pd : PyData} {mo : List PyData} (h : OddL pd mo) {d : PyData} (hd : d ∈ mo) : d = pd ∨ d = .none := by
  rcases h with rfl | rfl
  · exact .inl (by simpa using hd)
  · simpa using hd
theorem OddL.here {pd : PyData} {mo : List PyData} (h : OddL pd mo) : pd ∈ mo := by
  rcases h with rfl | rfl <;> simp
theorem OddL.len {pd : PyData} {mo : List PyData} (h : OddL pd mo) : mo.length ≤ 2 := by
  rcases h with rfl | rfl <;> simp
section
variable {es : List Eg} {k : Nat} {mo : List PyData} {pd : PyData}
theorem hand_item (ed : ∀ e ∈ es, edB e = true) (o : OddQ pd) (h : OddL pd mo) : ∀ d ∈ handD es k mo, Item d := fun d hd => by
  rcases hand_mem hd with hd | ⟨e, he, rfl⟩
  · rcases h.mem hd with rfl | rfl
    · exact item_o o
    · exact item_n
  · exact item_e (ed e he)
theorem hand_kind (h : OddL pd mo) : ∀ d ∈ handD es k mo, d = pd ∨ d = .none ∨ (∃ s, d = .str s) ∨ ∃ e, d = eP e := fun d hd => by
  rcases hand_mem hd with hd | ⟨e, he, rfl⟩
  · rcases h.mem hd with rfl | rfl
    · exact .inl rfl
    · exact .inr (.inl rfl)
  · exact .inr (.inr (.inr ⟨e, rfl⟩))
theorem hand_bad (o : OddQ pd) (h : OddL pd mo) : ∃ d ∈ handD es k mo, edgeB d = false := by
  refine ⟨pd, ?_, o.no⟩
  unfold handD
  exact List.mem_append_left _ (List.mem_append_right _ h.here)
end
section
variable {K : PySem.W.Frag} {mg : Str → Option Value} {H : Hp} {CF CH : Addr} {es : List Eg} {k : Nat} {mo : List PyData} {pd : PyData} {ys : List V} {ah : Addr}
/-- the catcher of a list -/
theorem cau_list (Z : Kf K mg CF CH) (ed : ∀ e ∈ es, edB e = true) (ln : es.length ≤ 250) (o : OddQ pd) (ol : OddL pd mo) (h : H ah = some (.lst ys)) (dv : DVs H ys (handD es k mo)) (ns : ah ≠ sysModules) {Q : VK} {E : XK}
    (q : ∀ L H', But ah H H' → isEdges H' L → Q (.ref L) H') : spCau K CF CH [.ref ah] H Q E := by
  have hl := hand_len (k := k) ln ol.len
  refine ⟨.ref ah, rfl, .inr (.inr (.inl ⟨ah, ys, handD es k mo, rfl, h, dv, fun d hd => (hand_item ed o ol d hd).fl, by omega, hand_bad o ol, fun H' kb h' => ?_, q⟩))⟩
  have it : ∀ d ∈ handD es k mo ++ [PyData.str "late"], Item d := fun d hd => by
    rcases List.mem_append.mp hd with hd | hd
    · exact hand_item ed o ol d hd
    · have : d = .str "late" := by simpa using hd
      subst this
      exact item_s
  have kd : ∀ d ∈ handD es k mo ++ [PyData.str "late"], d = pd ∨ d = .none ∨ (∃ s, d = .str s) ∨ ∃ e, d = eP e := fun d hd => by
    rcases List.mem_append.mp hd with hd | hd
    · exact hand_kind ol d hd
    · have : d = .str "late" := by simpa using hd
      exact .inr (.inr (.inl ⟨_, this⟩))
  have dv' : DVs H' (ys ++ [.str "late"]) (handD es k mo ++ [.str "late"]) := dvs_app (dvs_but (.lst h dv) kb dv (Nat.lt_succ_self _)) (.cons (.str _) .nil)
  exact ⟨_, .dat (.base (.lst h')) (Z.figT _ (by decide)) (shown_list h' dv' it (by rw [List.length_append]; simp only [List.length_cons, List.length_nil]; omega) (apart_of o kd) ns)⟩
/-- .. of a tuple -/
theorem cau_tup (Z : Kf K mg CF CH) (ed : ∀ e ∈ es, edB e = true) (ln : es.length ≤ 250) (o : OddQ pd) (ol : OddL pd mo) (h : H ah = some (.tup ys)) (dv : DVs H ys (handD es k mo)) {Q : VK} {E : XK}
    (q : ∀ L H', Same H H' → isEdges H' L → Q (.ref L) H') : spCau K CF CH [.ref ah] H Q E := by
  have hl := hand_len (k := k) ln ol.len
  exact ⟨.ref ah, rfl, .inr (.inl ⟨ah, ys, handD es k mo, _, rfl, h, dv, fun d hd => (hand_item ed o ol d hd).fl, by omega, hand_bad o ol, .dat (.base (.tup h)) (Z.figT _ (by decide)) (shown_tup h dv (hand_item ed o ol) (by omega) (apart_of o (hand_kind ol))), q⟩)⟩
end
section
variable {P : Program} {w : World} {K : PySem.W.Frag} {mg : Str → Option Value} {base : Heap} {f : Addr} {cdv : Value} {A : Around} {outer : List Env} {s : Shared} {H0 : Hp} {E : XK} {CF CH : Addr}
theorem turn_ok (hr : Room 8 (A.deeper (envOfC "law" (defScope (top 28)) s.heap.objs.size f cdv))) (gd : (A.deeper (envOfC "law" (defScope (top 28)) s.heap.objs.size f cdv)).guards = some []) (T : Ta mg) (Z : Kf K mg CF CH)
    {fT : Addr} {fdT : FuncData} (GT : FnOk P w K mg base CX0 1 fT fdT ["_law_box_here", "_law_many_here"] spTake) (AT : At K mg "_law_take" fT fdT ["_law_box_here", "_law_many_here"])
    {fO : Addr} {fdO : FuncData} (GO : FnOk P w K mg base CX0 2 fO fdO ["_law_box_here"] spOddH) (AO : At K mg "_law_odd" fO fdO ["_law_box_here"])
    {fC : Addr} {fdC : FuncData} (GC : FnG P w K mg base 7 fC fdC ["_law_edges_here"] (spCau K CF CH)) (AC : At K mg "_law_caught" fC fdC ["_law_edges_here"]) :
    ∃ t, PSs (XL P w K mg base f cdv A outer s H0 E) lawTurn t ∧ ∀ (D : Ends) (a : Addr) (ns : List Int) (p ae : Addr) (m : Nat) (xs : List V) (es : List Eg) (q1 q4 q5 q6 q7 q8 q9 q10 : Option V) (H : Hp),
      m ≤ 800000 → In4 K H a ns p m ae xs es →
      (∀ H' o5 o6 o7 o8, In4 K H' a ns p (m + 9) ae xs es → D.nx [some (.ref a), q1, some (.ref p), some (.ref ae), q4, o5, o6, o7, o8, q9, q10] H') →
      t D [some (.ref a), q1, some (.ref p), some (.ref ae), q4, q5, q6, q7, q8, q9, q10] H := by
  obtain ⟨t, ht, go⟩ := hand_ok (P := P) (w := w) (K := K) (mg := mg) (base := base) (f := f) (cdv := cdv) (A := A) (outer := outer) (s := s) (H0 := H0) (E := E) hr gd GC AC
  refine ⟨_, (pss_cons (ps_par (i := 5) (j := 6) rfl scLaw.nd rfl rfl (by decide) rfl rfl (pa_cons (pe_call GO (hr.mono (by decide)) rfl AO.g AO.k AO.b .nil pass0 (pa_cons (pv 2) pa_nil)) (pa_cons (pe_call GT (hr.mono (by decide)) rfl AT.g AT.k AT.b .nil pass0 (pa_cons (pv 2) (pa_cons (pe_op op_add (pe_callB call_len_seq (by rfl) T.len PySem.boot_len (pa_cons (pv 3) pa_nil)) pe_int) pa_nil))) pa_nil)) rfl)
    (pss_cons (ps_set (i := 7) scLaw.nd rfl (Or.inl rfl) (pe_ix ix_list (pe_lst (pa_cons (pe_lst (pa_cons (pv 5) pa_nil)) (pa_cons (pe_lst (pa_cons (pv 5) (pa_cons pe_non pa_nil))) pa_nil))) (pe_call GT (hr.mono (by decide)) rfl AT.g AT.k AT.b .nil pass0 (pa_cons (pv 2) (pa_cons pe_int pa_nil))) (fun _ _ => rfl)))
    (pss_cons (ps_set (i := 8) scLaw.nd rfl (Or.inl rfl) (pe_op op_catS (pe_op op_cat (pe_slice sl_list (pv 3) po_none (po_some (pv 6))) (pv 7)) (pe_slice sl_list (pv 3) (po_some (pv 6)) po_none)))
    (pss_cons (ps_if (pt_cmpR op_eq (pe_call GT (hr.mono (by decide)) rfl AT.g AT.k AT.b .nil pass0 (pa_cons (pv 2) (pa_cons pe_int pa_nil))) pe_int (nomark _)) (pss_one (ps_set (i := 8) scLaw.nd rfl (Or.inl rfl) (pe_tupleOf (by rfl) T.tup (pv 8)))) pss_nil) ht)))), ?_⟩
  intro D a ns p ae m xs es q1 q4 q5 q6 q7 q8 q9 q10 H hm i0 q
  refine ⟨_, rfl, p, m, rfl, i0.box, by omega, fun v pd H1 od pv1 k1 b1 => ?_⟩
  have i1 : In4 K H1 a ns p (m + 6) ae xs es := i0.boxed k1 b1
  have lx : xs.length = es.length := by rw [i0.dv.length, List.length_map]
  have ln := i0.ln
  refine ⟨_, rfl, _, rfl, ae, xs, rfl, .inl (SqL.of i1.at_), _, _, rfl, rfl, p, ((m + 6 : Nat) : Int), _, rfl, b1, by omega, by omega, by omega, fun r H2 r0 r1 b2 k2 => ⟨_, _, rfl, ?_⟩⟩
  obtain ⟨k, rfl⟩ : ∃ k : Nat, r = k := ⟨r.toNat, by omega⟩
  have hk : k ≤ xs.length := by omega
  have i2 : In4 K H2 a ns p (m + 7) ae xs es := i1.boxed k2 (b2.le (by omega))
  refine ⟨_, rfl, (by show 1 ≤ sizeLine; decide), fun l1 n1 => ⟨_, rfl, (by show 2 ≤ sizeLine; decide), fun l2 n2 => ⟨(by show 2 ≤ sizeLine; decide), fun l3 n3 => ?_⟩⟩⟩
  have s5 : Same H2 (upd (upd (upd H2 l1 (.lst [v])) l2 (.lst [v, .non])) l3 (.lst [.ref l1, .ref l2])) := fun b o e => stay (stay (stay e n1) n2) n3
  have e1 : upd (upd (upd H2 l1 (.lst [v])) l2 (.lst [v, .non])) l3 (.lst [.ref l1, .ref l2]) l1 = some (.lst [v]) := stay (stay upd_same n2) n3
  have e2 : upd (upd (upd H2 l1 (.lst [v])) l2 (.lst [v, .non])) l3 (.lst [.ref l1, .ref l2]) l2 = some (.lst [v, .non]) := stay upd_same n3
  have e3 : upd (upd (upd H2 l1 (.lst [v])) l2 (.lst [v, .non])) l3 (.lst [.ref l1, .ref l2]) l3 = some (.lst [.ref l1, .ref l2]) := upd_same
  have p1 : l1 ≠ p := i2.box.ne n1
  have p2 : l2 ≠ p := (i2.box.more (fun b o e => stay e n1)).ne n2
  have p3 : l3 ≠ p := (i2.box.more (fun b o e => stay (stay e n1) n2)).ne n3
  generalize upd (upd (upd H2 l1 (.lst [v])) l2 (.lst [v, .non])) l3 (.lst [.ref l1, .ref l2]) = H5 at s5 e1 e2 e3
  have i5 := i2.same s5
  refine ⟨_, rfl, p, ((m + 7 : Nat) : Int), 2, rfl, i5.box, by omega, by decide, by decide, fun j H6 j0 j1 b6 k6 => ?_⟩
  have i6 : In4 K H6 a ns p (m + 8) ae xs es := i5.boxed k6 (b6.le (by omega))
  have kp : But p H1 H6 := but_tr k2 (but_tr (but_of s5) k6)
  obtain ⟨lm, ym, mo, ol, hm6, dvm, hat, nlm⟩ : ∃ (lm : Addr) (ym : List V) (mo : List PyData), OddL pd mo ∧ H6 lm = some (.lst ym) ∧ (∀ H'', But p H1 H'' → DVs H'' ym mo) ∧ atI [V.ref l1, V.ref l2] j = some (.ref lm) ∧ lm ≠ p := by
    have : j = 0 ∨ j = 1 := by omega
    rcases this with rfl | rfl
    · exact ⟨l1, [v], [pd], .inl rfl, k6 _ _ p1 e1, fun H'' z => .cons (pv1 H'' z) .nil, rfl, p1⟩
    · exact ⟨l2, [v, .non], [pd, .none], .inr rfl, k6 _ _ p2 e2, fun H'' z => .cons (pv1 H'' z) (.cons .non .nil), rfl, p2⟩
  refine ⟨l3, _, j, .ref lm, rfl, rfl, SqL.of (k6 _ _ p3 e3), hat, ?_⟩
  refine ⟨_, rfl, _, rfl, (k : Int), rfl, ae, xs, rfl, SqL.of i6.at_, fun sa na => ?_⟩
  have ea : upd H6 sa (.lst (cutV xs none (some (k : Int)))) sa = some (.lst (xs.take k)) := by rw [upd_same, cut_front]
  have sA : Same H6 (upd H6 sa (.lst (cutV xs none (some (k : Int))))) := fun b o e => stay e na
  generalize upd H6 sa (.lst (cutV xs none (some (k : Int)))) = HA at ea sA
  have ll : ym.length = mo.length := (dvm H6 kp).length
  have lo := ol.len
  have l1' : (xs.take k).length ≤ 250 := by rw [List.length_take]; omega
  refine ⟨_, rfl, sa, lm, xs.take k, ym, rfl, rfl, ea, sA _ _ hm6, Nat.le_trans (show (xs.take k).length + ym.length ≤ 1000 by omega) (by decide), fun sb nb => ?_⟩
  have eb : upd HA sb (.lst (xs.take k ++ ym)) sb = some (.lst (xs.take k ++ ym)) := upd_same
  have sB : Same H6 (upd HA sb (.lst (xs.take k ++ ym))) := fun b o e => stay (sA b o e) nb
  generalize upd HA sb (.lst (xs.take k ++ ym)) = HB at eb sB
  refine ⟨_, rfl, _, rfl, (k : Int), rfl, ae, xs, rfl, SqL.of (sB _ _ i6.at_), fun sc nc => ?_⟩
  have ec : upd HB sc (.lst (cutV xs (some (k : Int)) none)) sc = some (.lst (xs.drop k)) := by rw [upd_same, cut_back hk]
  have sC : Same HB (upd HB sc (.lst (cutV xs (some (k : Int)) none))) := fun b o e => stay e nc
  generalize upd HB sc (.lst (cutV xs (some (k : Int)) none)) = HC at ec sC
  have l2' : (xs.drop k).length ≤ 250 := by rw [List.length_drop]; omega
  refine ⟨sb, sc, xs.take k ++ ym, xs.drop k, rfl, rfl, sC _ _ eb, ec, Nat.le_trans (show (xs.take k ++ ym).length + (xs.drop k).length ≤ 1000 by rw [List.length_append]; omega) (by decide), fun ah nh nsys => ?_⟩
  have eh : upd HC ah (.lst (xs.take k ++ ym ++ xs.drop k)) ah = some (.lst (xs.take k ++ ym ++ xs.drop k)) := upd_same
  have sD : Same H6 (upd HC ah (.lst (xs.take k ++ ym ++ xs.drop k))) := fun b o e => stay (sC _ _ (sB b o e)) nh
  have n6 : H6 ah = none := by
    cases e : H6 ah with
    | none => rfl
    | some o =>
      rw [sC _ _ (sB _ _ e)] at nh
      cases nh
  generalize upd HC ah (.lst (xs.take k ++ ym ++ xs.drop k)) = HD at eh sD
  have iD := i6.same sD
  have pah : ah ≠ p := i6.box.ne n6
  have dvD : ∀ H'', But p HD H'' → DVs H'' (xs.take k ++ ym ++ xs.drop k) (handD es k mo) := fun H'' z => by
    have tk : Tk H6 H'' := (Same.tk sD).tr (but_tk z (box_notup iD.box))
    have de : DVs H'' xs (es.map eP) := dvs_tk tk i6.dv (es_imm es)
    exact dvs_app (dvs_app (dvs_take k de) (dvm H'' (but_tr kp (but_tr (but_of sD) z)))) (dvs_drop k de)
  refine ⟨_, rfl, p, ((m + 8 : Nat) : Int), 3, rfl, iD.box, by omega, by decide, by decide, fun c HE c0 c1 bE kE => ⟨rfl, _, rfl, ?_⟩⟩
  have iE : In4 K HE a ns p (m + 9) ae xs es := iD.boxed kE (bE.le (by omega))
  have hE := kE _ _ pah eh
  by_cases cz : c = 0
  · refine ifT (decide_eq_true (by rw [cz])) ?_
    refine ⟨_, rfl, .inl ⟨ah, _, rfl, SqL.of hE, fun tq nq => ?_⟩⟩
    have sq : Same HE (upd HE tq (.tup (xs.take k ++ ym ++ xs.drop k))) := fun b o e => stay e nq
    refine go D _ (.ref tq) _ rfl fun Q E' qq => cau_tup Z i0.ed i0.ln od ol upd_same ((dvD HE kE).more sq) fun L H' sH he => qq L H' he fun H'' sH' => ?_
    exact q H'' _ _ _ _ (iE.same fun b o e => sH' _ _ (sH _ _ (sq b o e)))
  · refine ifF (decide_eq_false (fun e => cz (V.int.inj e))) ?_
    refine go D _ (.ref ah) _ rfl fun Q E' qq => cau_list Z i0.ed i0.ln od ol hE (dvD HE kE) nsys fun L H' kH he => qq L H' he fun H'' sH' => ?_
    exact q H'' _ _ _ _ ((i6.past n6 (but_tr (but_of sD) kE) (m' := m + 9) (bE.le (by omega)) hE kH).same sH')
end
end V1
set_option Elab.async false
set_option linter.all false
set_option maxRecDepth 100000
set_option maxHeartbeats 16000000
/-! How many edges are held. -/
namespace V1
open PySem PySem.Spec PyProof.Rows L2 Nv
section
variable {xs : List V} {ds : List PyData} {m : Nat}
theorem key_mem {kvs : List (Key × V)} {ns : List Int} {n : Int} (e : kvs.map (·.1) = ns.map Sum.inl) : (valV kvs (Sum.inl n)).isSome = true ↔ n ∈ ns := by
  rw [← valV_any, List.any_eq_true]
  constructor
  · rintro ⟨p, hp, h⟩
    have hm : p.1 ∈ kvs.map (·.1) := List.mem_map_of_mem hp
    rw [of_decide_eq_true h, e] at hm
    obtain ⟨k, hk, ek⟩ := List.mem_map.mp hm
    rw [← Sum.inl.inj ek]
    exact hk
  · intro h
    have hm : (Sum.inl n : Key) ∈ kvs.map (·.1) := by rw [e]; exact List.mem_map_of_mem h
    obtain ⟨p, hp, ep⟩ := List.mem_map.mp hm
    exact ⟨p, hp, decide_eq_true ep⟩
theorem held_new (h : xs.length = ds.length) (hm : m ≤ xs.length) (nd : ((ds.take m).map numE).Nodup) : ∀ i, i ≤ m → (heldI xs ds i).map (·.1) = ((ds.take i).map numE).map Sum.inl
  | 0, _ => rfl
  | i + 1, hi => by
    have ih := held_new h hm nd i (by omega)
    have hx : i < xs.length := by omega
    have hd : i < ds.length := by omega
    rw [heldI_succ (List.getElem?_eq_getElem hx) (List.getElem?_eq_getElem hd)]
    have no : valV (heldI xs ds i) (Sum.inl (numE ds[i])) = none := by
      cases hv : valV (heldI xs ds i) (Sum.inl (numE ds[i])) with
      | none => rfl
      | some w =>
        have mm := (key_mem ih).mp (by rw [hv]; rfl)
        obtain ⟨j, hj, ej⟩ := List.mem_iff_getElem.mp mm
        rw [List.getElem_map, List.getElem_take] at ej
        rw [List.length_map, List.length_take] at hj
        have pw := List.pairwise_iff_getElem.mp nd j i (by rw [List.length_map, List.length_take]; omega) (by rw [List.length_map, List.length_take]; omega) (by omega)
        rw [List.getElem_map, List.getElem_map, List.getElem_take, List.getElem_take] at pw
        exact absurd ej pw
    rw [putK_new _ no, List.map_append, ih, List.take_succ_eq_append_getElem hd, List.map_append, List.map_append]
    rfl
theorem held_more (h : xs.length = ds.length) (hm : m ≤ xs.length) (nd : ((ds.take m).map numE).Nodup) (old : ∀ j (hj : j < ds.length), m ≤ j → numE ds[j] ∈ (ds.take m).map numE) : ∀ i, m ≤ i → i ≤ xs.length → (heldI xs ds i).map (·.1) = ((ds.take m).map numE).map Sum.inl := by
  intro i
  induction i with
  | zero =>
    intro h1 h2
    have : m = 0 := by omega
    subst this
    rfl
  | succ i ih =>
    intro h1 h2
    by_cases e : m = i + 1
    · subst e
      exact held_new h hm nd _ (Nat.le_refl _)
    · have ih := ih (by omega) (by omega)
      have hx : i < xs.length := by omega
      have hd : i < ds.length := by omega
      rw [heldI_succ (List.getElem?_eq_getElem hx) (List.getElem?_eq_getElem hd)]
      obtain ⟨w, hw⟩ := Option.isSome_iff_exists.mp ((key_mem ih).mpr (old i hd (by omega)))
      rw [putK_keys hw]
      exact ih
theorem good_many {kvs : List (Key × V)} (g : Good xs ds kvs) (h : xs.length = ds.length) (hm : m ≤ xs.length) (nd : ((ds.take m).map numE).Nodup) (old : ∀ j (hj : j < ds.length), m ≤ j → numE ds[j] ∈ (ds.take m).map numE) : kvs.length = m := by
  have e := congrArg List.length (held_more h hm nd old xs.length hm (Nat.le_refl _))
  rw [List.length_map, List.length_map, List.length_map, List.length_take] at e
  rw [g.1.length_eq, ← heldI_all h]
  omega
end
/-- the edges of _law_many -/
def eJ (j : Nat) : Eg := (((j % 30 : Nat), (j / 30 : Nat)), ((j % 30 : Nat) + 1, (j / 30 : Nat)))
theorem eJ_ok {j : Nat} (h : j < 403) : edB (eJ j) = true := ed_right (by omega) (by omega) (by omega) (by omega)
theorem eJ_num (j : Nat) : numE (eP (eJ j)) = 2 * (31 * ((j % 30 : Nat) : Int) + ((j / 30 : Nat) : Int)) + 1 := by
  show 2 * (31 * numOf (.int ((j % 30 : Nat) : Int)) + numOf (.int ((j / 30 : Nat) : Int))) + (if numOf (.int (((j % 30 : Nat) : Int) + 1)) = numOf (.int ((j % 30 : Nat) : Int)) + 1 then 1 else 0) = _
  rw [if_pos (show numOf (.int (((j % 30 : Nat) : Int) + 1)) = numOf (.int ((j % 30 : Nat) : Int)) + 1 from rfl)]
  rfl
theorem eJ_inj {i j : Nat} (hi : i < 403) (hj : j < 403) (e : numE (eP (eJ i)) = numE (eP (eJ j))) : i = j := by
  rw [eJ_num, eJ_num] at e
  omega
def manyE (n r : Nat) : List Eg := (List.range n).map eJ ++ ((List.range n).map eJ).take r
theorem manyE_ok {n r : Nat} (hn : n ≤ 403) : ∀ e ∈ manyE n r, edB e = true := fun e he => by
  have : e ∈ (List.range n).map eJ := by
    rcases List.mem_append.mp he with h | h
    · exact h
    · exact List.mem_of_mem_take h
  obtain ⟨j, hj, rfl⟩ := List.mem_map.mp this
  exact eJ_ok (by have := List.mem_range.mp hj; omega)
theorem manyE_count {n r : Nat} (hn : n ≤ 403) {xs : List V} {kvs : List (Key × V)} (h : xs.length = ((manyE n r).map eP).length) (g : Good xs ((manyE n r).map eP) kvs) : kvs.length = n := by
  have lm : ((List.range n).map eJ).length = n := by rw [List.length_map, List.length_range]
  have tk : ((manyE n r).map eP).take n = ((List.range n).map eJ).map eP := by
    unfold manyE
    rw [List.map_append, List.take_append_of_le_length (by rw [List.length_map, lm]; exact Nat.le_refl _), List.take_of_length_le (by rw [List.length_map, lm]; exact Nat.le_refl _)]
  refine good_many g h (by rw [h, List.length_map]; unfold manyE; rw [List.length_append, lm]; omega) ?_ fun j hj hm => ?_
  · rw [tk, List.map_map, List.map_map]
    refine List.pairwise_map.mpr (List.nodup_range.imp_of_mem fun {i j} hi hj ne e => ne ?_)
    have := List.mem_range.mp hi
    have := List.mem_range.mp hj
    exact eJ_inj (by omega) (by omega) e
  · rw [tk]
    have hj2 : j < (manyE n r).length := by rw [List.length_map] at hj; exact hj
    rw [List.getElem_map]
    refine List.mem_map_of_mem (List.mem_map_of_mem ?_)
    have : (manyE n r)[j] ∈ manyE n r := List.getElem_mem hj2
    rcases List.mem_append.mp this with h | h
    · exact h
    · exact List.mem_of_mem_take h
end V1
set_option Elab.async false
set_option linter.all false
set_option maxRecDepth 100000
set_option maxHeartbeats 16000000
/-! _law_many. -/
namespace V1
open PySem PySem.Spec PyProof.Rows L2 Nv
def spMany : Sp := fun vs H Q _ => ∃ (p : Addr) (m : Nat), vs = [.ref p] ∧ BoxAt H p (m : Int) ∧ m ≤ 900000 ∧ ∀ H', But p H H' → BoxAt H' p ((m + 2 : Nat) : Int) → Q (.bl true) H'
def manyN : List Str := ["_law_box_here", "_law_many_here", "_law_edges_here", "_law_due", "_law_j"]
theorem numT_ok {n : Nat} (h : 398 ≤ n) (h2 : n ≤ 403) : PyData.strOk (numT n) = true := by
  have : n = 398 ∨ n = 399 ∨ n = 400 ∨ n = 401 ∨ n = 402 ∨ n = 403 := by omega
  rcases this with rfl | rfl | rfl | rfl | rfl | rfl <;> decide +kernel
theorem manyE_len {n r : Nat} (hn : n ≤ 403) (hr : r ≤ 50) : (manyE n r).length ≤ 453 := by
  unfold manyE
  rw [List.length_append, List.length_take, List.length_map, List.length_range]
  omega
/-- the catcher of edges and None -/
theorem cau_none {K : PySem.W.Frag} {mg : Str → Option Value} {H : Hp} {CF CH : Addr} {es : List Eg} {ys : List V} {ah : Addr} (Z : Kf K mg CF CH) (ed : ∀ e ∈ es, edB e = true) (ln : es.length ≤ 453) (h : H ah = some (.lst ys)) (dv : DVs H ys (es.map eP ++ [.none])) (ns : ah ≠ sysModules) {Q : VK} {E : XK}
    (q : ∀ L H', But ah H H' → isEdges H' L → Q (.ref L) H') : spCau K CF CH [.ref ah] H Q E := by
  have it : ∀ d ∈ es.map eP ++ [PyData.none], Item d := fun d hd => by
    rcases List.mem_append.mp hd with hd | hd
    · obtain ⟨e, he, rfl⟩ := List.mem_map.mp hd
      exact item_e (ed e he)
    · have : d = .none := by simpa using hd
      subst this
      exact item_n
  have it2 : ∀ d ∈ es.map eP ++ [PyData.none] ++ [PyData.str "late"], Item d := fun d hd => by
    rcases List.mem_append.mp hd with hd | hd
    · exact it d hd
    · have : d = .str "late" := by simpa using hd
      subst this
      exact item_s
  have nd : PyData.hasDictAll (es.map eP ++ [PyData.none] ++ [PyData.str "late"]) = false := flat_all fun d hd => by
    rcases List.mem_append.mp hd with hd | hd
    · rcases List.mem_append.mp hd with hd | hd
      · obtain ⟨e, he, rfl⟩ := List.mem_map.mp hd
        exact eP_dict e
      · have : d = .none := by simpa using hd
        subst this
        rfl
    · have : d = .str "late" := by simpa using hd
      subst this
      rfl
  have l2 : (es.map eP ++ [PyData.none]).length ≤ 454 := by rw [List.length_append, List.length_map]; simp only [List.length_cons, List.length_nil]; omega
  refine ⟨.ref ah, rfl, .inr (.inr (.inl ⟨ah, ys, _, rfl, h, dv, fun d hd => (it d hd).fl, by omega, ⟨.none, List.mem_append_right _ (by simp), rfl⟩, fun H' kb h' => ?_, q⟩))⟩
  have dv' : DVs H' (ys ++ [.str "late"]) (es.map eP ++ [.none] ++ [.str "late"]) := dvs_app (dvs_but (.lst h dv) kb dv (Nat.lt_succ_self _)) (.cons (.str _) .nil)
  exact ⟨_, .dat (.base (.lst h')) (Z.figT _ (by decide)) (shown_list h' dv' it2 (by rw [List.length_append]; simp only [List.length_cons, List.length_nil]; omega) (fun z => by rw [nd] at z; cases z) ns)⟩
/-- .. of good edges -/
theorem cau_good {K : PySem.W.Frag} {H : Hp} {CF CH : Addr} {n r : Nat} {ys : List V} {ah : Addr} (hn : n ≤ 403) (hr : r ≤ 50) (h : H ah = some (.lst ys)) (dv : DVs H ys ((manyE n r).map eP)) {Q : VK} {E : XK}
    (q : ∀ L H', Same H H' → H' L = some (.lst [.str (if 400 < n then "large" else "told"), .str (numT n)]) → Q (.ref L) H') : spCau K CF CH [.ref ah] H Q E := by
  have ln := manyE_len (r := r) hn hr
  refine ⟨.ref ah, rfl, .inr (.inr (.inr ⟨ah, ys, _, rfl, h, dv, fun d hd => ?_, by rw [List.length_map]; omega, fun d hd => ?_, fun kvs g => ?_⟩))⟩
  · obtain ⟨e, he, rfl⟩ := List.mem_map.mp hd
    exact eP_flat (manyE_ok hn e he)
  · obtain ⟨e, he, rfl⟩ := List.mem_map.mp hd
    exact edgeB_of (manyE_ok hn e he)
  · have c := manyE_count hn dv.length g
    rw [c]
    exact ⟨fun le L H' s hL => q L H' s (by rw [if_neg (by omega)]; exact hL), fun gt L H' s hL => q L H' s (by rw [if_pos gt]; exact hL)⟩
section
variable {P : Program} {w : World} {K : PySem.W.Frag} {mg : Str → Option Value} {base : Heap} {CF CH : Addr}
theorem scMany : FnScope manyN ["_law_box_here"] (defScope (top 27)) := ⟨rfl, rfl, rfl, by decide +kernel, rfl, by decide +kernel, by decide +kernel⟩
abbrev XM (P : Program) (w : World) (K : PySem.W.Frag) (mg : Str → Option Value) (base : Heap) (f : Addr) (cdv : Value) (A : Around) (outer : List Env) (s : Shared) (H0 : Hp) (E : XK) : Cx := (cxOf CX0 P w K mg base manyN "_law_many" (defScope (top 27)) f cdv A outer s H0 E).nox
section
theorem many_end {sp : Sp} (hsp : ∀ vs H Q E, spCau K CF CH vs H Q E → sp vs H Q E) {f : Addr} {cdv : Value} {A : Around} {outer : List Env} {s : Shared} {H0 : Hp} {E : XK} (Z : Kf K mg CF CH) (hr : Room 7 (A.deeper (envOfC "_law_many" (defScope (top 27)) s.heap.objs.size f cdv))) (gd : (A.deeper (envOfC "_law_many" (defScope (top 27)) s.heap.objs.size f cdv)).guards = some [])
    {fC : Addr} {fdC : FuncData} (GC : FnG P w K mg base 7 fC fdC ["_law_edges_here"] sp) (AC : At K mg "_law_caught" fC fdC ["_law_edges_here"]) :
    ∃ t, PSs (XM P w K mg base f cdv A outer s H0 E) ((defBody (top 27)).drop 5) t ∧ ∀ (D : Ends) (q0 q1 q4 : Option V) (ae ld : Addr) (n r : Nat) (ys : List V) (H : Hp), n ≤ 403 → 398 ≤ n → r ≤ 50 → H ae = some (.lst ys) → DVs H ys ((manyE n r).map eP) →
      H ld = some (.lst [.str (if 400 < n then "large" else "told"), .str (numT n)]) → (∀ H', Same H H' → D.rt (.bl true) H') → t D [q0, q1, some (.ref ae), some (.ref ld), q4] H := by
  have hu64 : (A.deeper (envOfC "_law_many" (defScope (top 27)) s.heap.objs.size f cdv)).units + 64 < cLine := by
    have := hr.un
    omega
  refine ⟨_, (pss_one (ps_ret (pe_and (pe_cmpR (op_eqD hu64) (pe_callG GC gd hr rfl AC.g AC.k AC.b (pa_cons (pv 2) pa_nil)) (pv 3) (by rfl))
      (pe_one (pe_cmpR op_eq (pe_ix ix_list (pe_callG GC gd hr rfl AC.g AC.k AC.b (pa_cons (pe_op op_catS (pv 2) (pe_lst (pa_cons pe_non pa_nil))) pa_nil)) pe_int (fun _ _ => rfl)) pe_str (nomark _)))))), ?_⟩
  intro D q0 q1 q4 ae ld n r ys H n1 n2 r1 hae dv hld q
  have okW : PyData.strOk (if 400 < n then ("large" : Str) else "told") = true := by split <;> decide +kernel
  have sh := (sh_told okW (numT_ok n2 n1)).1
  have ln := manyE_len (r := r) n1 r1
  have ly : ys.length = (manyE n r).length := by rw [dv.length, List.length_map]
  refine ⟨_, rfl, ?_⟩
  show sp [.ref ae] H _ E0
  refine hsp _ _ _ _ (cau_good n1 r1 hae dv fun L H1 s1 hL => ?_)
  refine ⟨_, rfl, .list [.str (if 400 < n then "large" else "told"), .str (numT n)], .list [.str (if 400 < n then "large" else "told"), .str (numT n)], .lst (SqL.of hL) (.cons (.str _) (.cons (.str _) .nil)), .lst (SqL.of (s1 _ _ hld)) (.cons (.str _) (.cons (.str _) .nil)), sh, sh, _, rfl, ifT ?_ ?_⟩
  · simp [PyData.eqv, PyData.eqvAll]
  · refine ⟨_, rfl, (by show 1 ≤ sizeLine; decide), fun l2 m2 => ?_⟩
    refine ⟨ae, l2, ys, [.non], rfl, rfl, stay (s1 _ _ hae) m2, upd_same, Nat.le_trans (show ys.length + 1 ≤ 1000 by omega) (by decide), fun ah nh ns => ?_⟩
    show sp [.ref ah] _ _ E0
    have s2 : Same H (upd (upd H1 l2 (.lst [.non])) ah (.lst (ys ++ [.non]))) := fun b o e => stay (stay (s1 _ _ e) m2) nh
    have nH : H ah = none := by
      cases e : H ah with
      | none => rfl
      | some o =>
        rw [stay (s1 _ _ e) m2] at nh
        cases nh
    refine hsp _ _ _ _ (cau_none Z (manyE_ok n1) ln upd_same (dvs_app (dv.more s2) (.cons .non .nil)) ns fun L2 H3 k3 he => ?_)
    refine ⟨L2, _, 0, .str "edges", rfl, rfl, SqL.of he, rfl, rfl, ?_⟩
    exact q H3 fun b o e => k3 _ _ (fun z => by rw [z, nH] at e; cases e) (s2 b o e)
end
theorem ok_many {f : Addr} {fd : FuncData} (F : Fun K "_law_many" "_law_many" (top 27) f fd) (T : Ta mg) (B : Bi mg) (R : Tsh mg) (Z : Kf K mg CF CH)
    {fT : Addr} {fdT : FuncData} (GT : FnOk P w K mg base CX0 1 fT fdT ["_law_box_here", "_law_many_here"] spTake) (AT : At K mg "_law_take" fT fdT ["_law_box_here", "_law_many_here"])
    {fC : Addr} {fdC : FuncData} (GC : FnG P w K mg base 7 fC fdC ["_law_edges_here"] (spCau K CF CH)) (AC : At K mg "_law_caught" fC fdC ["_law_edges_here"]) :
    FnG P w K mg base 8 f fd ["_law_box_here"] spMany := by
  refine FnG.made F scMany (fun vs H Q E h => by obtain ⟨p, m, rfl, _⟩ := h; rfl) (fun cdv A outer s H vs Q E gd hr h => ?_)
  obtain ⟨p, m, rfl, b0, hm, q⟩ := h
  have hu : (A.deeper (envOfC "_law_many" (defScope (top 27)) s.heap.objs.size f cdv)).units + 100 < cLine := by
    have := hr.un
    omega
  have hu64 : (A.deeper (envOfC "_law_many" (defScope (top 27)) s.heap.objs.size f cdv)).units + 64 < cLine := by omega
  obtain ⟨tE, ht, go⟩ := many_end (P := P) (w := w) (K := K) (mg := mg) (base := base) (f := f) (cdv := cdv) (A := A) (outer := outer) (s := s) (H0 := H) (E := E) (fun _ _ _ _ h => h) Z hr gd GC AC
  refine ⟨_, (pss_cons (ps_set (i := 1) scMany.nd rfl (Or.inl rfl) (pe_op op_add pe_int (pe_call GT (hr.mono (by decide)) rfl AT.g AT.k AT.b .nil pass0 (pa_cons (pv 0) (pa_cons pe_int pa_nil)))))
    (pss_cons (ps_setLc (i := 2) (own := [("_law_j", 4)]) (g := gName 4) (tt := tYes) rfl scMany.nd rfl rfl (by rfl) (pi_range1 rfl B.range (pa_cons (pv 1) pa_nil)) (blkOk_by (N := manyN) (sc := defScope (top 27)) (by decide +kernel)) (fun _ _ _ _ _ => pg_name (i := 4) scMany.nd rfl (Or.inl rfl)) (fun _ _ _ _ _ => pts_nil)
        (fun _ _ _ _ _ => pe_tup (pa_cons (pe_tup (pa_cons (pe_op op_mod (pv 4) pe_int) (pa_cons (pe_op op_fdiv (pv 4) pe_int) pa_nil))) (pa_cons (pe_tup (pa_cons (pe_op op_add (pe_op op_mod (pv 4) pe_int) pe_int) (pa_cons (pe_op op_fdiv (pv 4) pe_int) pa_nil))) pa_nil))))
    (pss_cons (ps_set (i := 2) scMany.nd rfl (Or.inl rfl) (pe_op op_cat (pv 2) (pe_slice sl_list (pv 2) po_none (po_some (pe_call GT (hr.mono (by decide)) rfl AT.g AT.k AT.b .nil pass0 (pa_cons (pv 0) (pa_cons pe_int pa_nil)))))))
    (pss_cons (ps_set (i := 3) scMany.nd rfl (Or.inl rfl) (pe_lst (pa_cons pe_str (pa_cons (pe_callB (call_reprD gd hu) (by rfl) R.rep (by decide +kernel) (pa_cons (pv 1) pa_nil)) pa_nil))))
    (pss_cons (ps_if (pt_cmpR op_gt (pv 1) pe_int (nomark _)) (pss_one (ps_set (i := 3) scMany.nd rfl (Or.inl rfl) (pe_lst (pa_cons pe_str (pa_cons (pe_callB (call_reprD gd hu) (by rfl) R.rep (by decide +kernel) (pa_cons (pv 1) pa_nil)) pa_nil))))) pss_nil)
    ht))))), ?_⟩
  refine ⟨_, rfl, p, (m : Int), 6, rfl, b0, by omega, by decide, by decide, fun r H1 r0 r1 b1 k1 => ⟨_, _, rfl, rfl, ?_⟩⟩
  obtain ⟨r', rfl⟩ : ∃ k : Nat, r = k := ⟨r.toNat, by omega⟩
  obtain ⟨n, hn⟩ : ∃ n : Nat, n = 398 + r' := ⟨_, rfl⟩
  have en : (398 : Int) + (r' : Int) = (n : Int) := by omega
  change gName 1 (.int ((398 : Int) + (r' : Int))) _ _ _
  rw [en]
  have n403 : n ≤ 403 := by omega
  refine ⟨_, rfl, (n : Int), rfl, by omega, by omega, fun D nD => ?_⟩
  have nDp : D ≠ p := b1.ne nD
  let I : Nat → Hp → Prop := fun i H' => Same H1 H' ∧ ∃ vs, H' D = some (.lst vs) ∧ DVs H' vs (((List.range i).map eJ).map eP)
  refine ⟨fun i mm H' => mm = n - i ∧ i ≤ n ∧ I i H', ⟨n - 0, rfl, Nat.zero_le _, (fun b o e => stay e nD), [], upd_same, .nil⟩, ?_⟩
  rintro i mm H' ⟨rfl, hi, s', vs, hD, dv⟩
  by_cases hlt : i < n
  · refine .inr ⟨hlt, fun H'' => I (i + 1) H'', fun H'' z => ⟨_, by omega, rfl, hlt, z⟩, ?_⟩
    rintro x H'' ⟨rfl, rfl⟩
    refine ⟨rfl, _, rfl, _, _, rfl, rfl, (show (0 : Int) < 30 by decide), _, rfl, _, _, rfl, rfl, ⟨by decide, by decide⟩, (by show 2 ≤ sizeLine; decide), fun t1 m1 => ?_⟩
    refine ⟨_, rfl, _, _, rfl, rfl, (show (0 : Int) < 30 by decide), _, _, rfl, rfl, _, rfl, _, _, rfl, rfl, ⟨by decide, by decide⟩, (by show 2 ≤ sizeLine; decide), fun t2 m2 => ⟨(by show 2 ≤ sizeLine; decide), fun t3 m3 => ?_⟩⟩
    have h1 : ((0 : Int) + (i : Int)) % 30 = ((i % 30 : Nat) : Int) := by omega
    have h2 : ((0 : Int) + (i : Int)) / 30 = ((i / 30 : Nat) : Int) := by omega
    have c1 : upd H'' t1 (.tup [V.int (((0 : Int) + (i : Int)) % 30), V.int (((0 : Int) + (i : Int)) / 30)]) t1 = some (.tup [.int ((i % 30 : Nat) : Int), .int ((i / 30 : Nat) : Int)]) := by rw [upd_same, h1, h2]
    have k1 : Same H'' (upd H'' t1 (.tup [V.int (((0 : Int) + (i : Int)) % 30), V.int (((0 : Int) + (i : Int)) / 30)])) := fun b o e => stay e m1
    change upd H'' t1 (.tup [V.int (((0 : Int) + (i : Int)) % 30), V.int (((0 : Int) + (i : Int)) / 30)]) t2 = none at m2
    change upd (upd H'' t1 (.tup [V.int (((0 : Int) + (i : Int)) % 30), V.int (((0 : Int) + (i : Int)) / 30)])) t2 (.tup [V.int (((0 : Int) + (i : Int)) % 30 + 1), V.int (((0 : Int) + (i : Int)) / 30)]) t3 = none at m3
    change ∃ acc, (upd (upd (upd H'' t1 (.tup [V.int (((0 : Int) + (i : Int)) % 30), V.int (((0 : Int) + (i : Int)) / 30)])) t2 (.tup [V.int (((0 : Int) + (i : Int)) % 30 + 1), V.int (((0 : Int) + (i : Int)) / 30)])) t3 (.tup [.ref t1, .ref t2])) D = some (.lst acc) ∧ acc.length < sizeLine ∧
      I (i + 1) (upd (upd (upd (upd H'' t1 (.tup [V.int (((0 : Int) + (i : Int)) % 30), V.int (((0 : Int) + (i : Int)) / 30)])) t2 (.tup [V.int (((0 : Int) + (i : Int)) % 30 + 1), V.int (((0 : Int) + (i : Int)) / 30)])) t3 (.tup [.ref t1, .ref t2])) D (.lst (acc ++ [.ref t3])))
    have c2 : upd (upd H'' t1 (.tup [V.int (((0 : Int) + (i : Int)) % 30), V.int (((0 : Int) + (i : Int)) / 30)])) t2 (.tup [V.int (((0 : Int) + (i : Int)) % 30 + 1), V.int (((0 : Int) + (i : Int)) / 30)]) t2 = some (.tup [.int (((i % 30 : Nat) : Int) + 1), .int ((i / 30 : Nat) : Int)]) := by rw [upd_same, h1, h2]
    have c3 : upd (upd (upd H'' t1 (.tup [V.int (((0 : Int) + (i : Int)) % 30), V.int (((0 : Int) + (i : Int)) / 30)])) t2 (.tup [V.int (((0 : Int) + (i : Int)) % 30 + 1), V.int (((0 : Int) + (i : Int)) / 30)])) t3 (.tup [.ref t1, .ref t2]) t3 = some (.tup [.ref t1, .ref t2]) := upd_same
    have d1 := stay (o := .tup [.ref t1, .ref t2]) (stay (o := .tup [V.int (((0 : Int) + (i : Int)) % 30 + 1), V.int (((0 : Int) + (i : Int)) / 30)]) c1 m2) m3
    have d2 := stay (o := .tup [.ref t1, .ref t2]) c2 m3
    have kk : Same H'' (upd (upd (upd H'' t1 (.tup [V.int (((0 : Int) + (i : Int)) % 30), V.int (((0 : Int) + (i : Int)) / 30)])) t2 (.tup [V.int (((0 : Int) + (i : Int)) % 30 + 1), V.int (((0 : Int) + (i : Int)) / 30)])) t3 (.tup [.ref t1, .ref t2])) := fun b o e => stay (stay (k1 b o e) m2) m3
    generalize upd (upd (upd H'' t1 (.tup [V.int (((0 : Int) + (i : Int)) % 30), V.int (((0 : Int) + (i : Int)) / 30)])) t2 (.tup [V.int (((0 : Int) + (i : Int)) % 30 + 1), V.int (((0 : Int) + (i : Int)) / 30)])) t3 (.tup [.ref t1, .ref t2]) = HA at c3 d1 d2 kk
    have lv : vs.length = i := by rw [dv.length, List.length_map, List.length_map, List.length_range]
    have tk : Tk HA (upd HA D (.lst (vs ++ [.ref t3]))) := fun b ys e => by
      rw [upd_ne (fun z => by rw [z, kk _ _ hD] at e; cases e)]
      exact e
    refine ⟨vs, kk _ _ hD, Nat.lt_of_le_of_lt (show vs.length ≤ 1001 by omega) (by decide), (fun b o e => ?_), vs ++ [.ref t3], upd_same, ?_⟩
    · rw [upd_ne (fun z => by rw [z, nD] at e; cases e)]
      exact kk _ _ (s' _ _ e)
    · rw [List.range_succ, List.map_append, List.map_append]
      refine dvs_app (dvs_tk ((Same.tk kk).tr tk) dv (es_imm _)) (.cons ?_ .nil)
      exact .tup (tk _ _ c3) (.cons (.tup (tk _ _ d1) (.cons (.int _) (.cons (.int _) .nil))) (.cons (.tup (tk _ _ d2) (.cons (.int _) (.cons (.int _) .nil))) .nil))
  · have ei : i = n := by omega
    subst ei
    refine .inl ⟨Nat.le_refl _, ?_⟩
    have b1' : BoxAt H' p ((m : Int) + 1) := b1.more s'
    refine ⟨_, rfl, _, rfl, _, rfl, p, (m : Int) + 1, 50, rfl, b1', by omega, by decide, by decide, fun r2 H2 q0 q1 b2 k2 => ?_⟩
    obtain ⟨r, rfl⟩ : ∃ k : Nat, r2 = k := ⟨r2.toNat, by omega⟩
    have hD2 := k2 _ _ nDp hD
    have dv2 : DVs H2 vs (((List.range i).map eJ).map eP) := dvs_tk (but_tk k2 (box_notup b1')) dv (es_imm _)
    refine ⟨(r : Int), rfl, D, vs, rfl, SqL.of hD2, fun sa na => ?_⟩
    have ea : upd H2 sa (.lst (cutV vs none (some (r : Int)))) sa = some (.lst (vs.take r)) := by rw [upd_same, cut_front]
    have sA : Same H2 (upd H2 sa (.lst (cutV vs none (some (r : Int))))) := fun b o e => stay e na
    generalize upd H2 sa (.lst (cutV vs none (some (r : Int)))) = HA at ea sA
    have lv : vs.length = i := by rw [dv.length, List.length_map, List.length_map, List.length_range]
    have lt : (vs.take r).length ≤ 50 := by rw [List.length_take]; omega
    refine ⟨D, sa, vs, vs.take r, rfl, rfl, sA _ _ hD2, ea, Nat.le_trans (show vs.length + (vs.take r).length ≤ 1000 by omega) (by decide), fun ae nae => ?_⟩
    have ee : upd HA ae (.lst (vs ++ vs.take r)) ae = some (.lst (vs ++ vs.take r)) := upd_same
    have sE : Same H2 (upd HA ae (.lst (vs ++ vs.take r))) := fun b o e => stay (sA b o e) nae
    generalize upd HA ae (.lst (vs ++ vs.take r)) = HE at ee sE
    have dE : DVs HE (vs ++ vs.take r) ((manyE i r).map eP) := by
      unfold manyE
      rw [List.map_append, List.map_take]
      exact dvs_app (dv2.more sE) (dvs_take r (dv2.more sE))
    have kE : But p H HE := but_tr k1 (but_tr (but_of s') (but_tr k2 (but_of sE)))
    have bE : BoxAt HE p ((m + 2 : Nat) : Int) := (b2.more sE).le (by omega)
    have ni : Nice (.int (i : Int)) := nice_int (Nat.lt_of_le_of_lt (show (i : Int).natAbs ≤ 1000 by omega) (by decide))
    refine ⟨_, rfl, _, .int (i : Int), rfl, .int _, ni, (by show 2 ≤ sizeLine; decide), fun l1 m1 => ?_⟩
    refine ⟨_, rfl, _, _, rfl, rfl, _, rfl, ?_⟩
    have s1 : Same HE (upd HE l1 (.lst [.str "told", .str (numT i)])) := fun b o e => stay e m1
    by_cases big : 400 < i
    · refine ifT (decide_eq_true (by omega)) ?_
      refine ⟨_, rfl, _, .int (i : Int), rfl, .int _, ni, (by show 2 ≤ sizeLine; decide), fun l2 m2 => ?_⟩
      have s2 : Same HE (upd (upd HE l1 (.lst [.str "told", .str (numT i)])) l2 (.lst [.str "large", .str (numT i)])) := fun b o e => stay (s1 b o e) m2
      exact go _ _ _ _ ae l2 i r _ _ n403 (by omega) (by omega) (s2 _ _ ee) (dE.more s2) (by rw [if_pos big]; exact upd_same) fun H3 s3 => q H3 (but_tr kE (but_of fun b o e => s3 _ _ (s2 b o e))) (bE.more fun b o e => s3 _ _ (s2 b o e))
    · refine ifF (decide_eq_false (by omega)) ?_
      exact go _ _ _ _ ae l1 i r _ _ n403 (by omega) (by omega) (s1 _ _ ee) (dE.more s1) (by rw [if_neg big]; exact upd_same) fun H3 s3 => q H3 (but_tr kE (but_of fun b o e => s3 _ _ (s1 b o e))) (bE.more fun b o e => s3 _ _ (s1 b o e))
end
end V1
set_option Elab.async false
set_option linter.all false
set_option maxRecDepth 100000
set_option maxHeartbeats 16000000
/-! Values of other kinds, and the end of a round of the law. -/
namespace V1
open PySem PySem.Spec PyProof.Rows L2 Nv
/-- refused, whatever stands besides -/
def Cau1 (K : PySem.W.Frag) (CF CH : Addr) (H : Hp) (v : V) : Prop := ∀ H', Same H H' → ∀ (Q : VK) (E : XK), (∀ L H'', Same H' H'' → isEdges H'' L → Q (.ref L) H'') → spCau K CF CH [v] H' Q E
section
variable {K : PySem.W.Frag} {mg : Str → Option Value} {H : Hp} {CF CH : Addr}
theorem cau_kind (Z : Kf K mg CF CH) {v : V} {n : String} {z : Str} (hn : n = "NoneType" ∨ n = "bool" ∨ n = "int" ∨ n = "str" ∨ n = "dict") (ty : TyX K H v (.type n)) (sh : ShwD H v z) : Cau1 K CF CH H v := fun H' s Q E q => by
  have k1 : PySem.W.kitOne K (.type n) (.type "list") = some false := by
    rcases hn with rfl | rfl | rfl | rfl | rfl <;> exact kit_ty (by decide +kernel)
  have k2 : PySem.W.kitOne K (.type n) (.type "tuple") = some false := by
    rcases hn with rfl | rfl | rfl | rfl | rfl <;> exact kit_ty (by decide +kernel)
  have mem : n ∈ tyNs := by rcases hn with rfl | rfl | rfl | rfl | rfl <;> decide
  exact ⟨v, rfl, .inl ⟨_, z, TyX.more ty s, Z.heldT n mem, by simp only [seqs, PySem.W.kitAny, k1, k2], k1, .dat (TyX.more ty s) (Z.figT n mem) (sh.more s), q⟩⟩
theorem cau_fig (Z : Kf K mg CF CH) {x : Addr} {kvs : List (Key × V)} {es : List Eg} (h : FigAt CF H x kvs) (dv : DVs H (kvs.map (·.2)) (es.map eP)) (ed : ∀ e ∈ es, edB e = true) (ln : es.length ≤ 250) : Cau1 K CF CH H (.ref x) := fun H' s Q E q => by
  obtain ⟨dx, tt, hh, h1, h2, h3⟩ := id (h.more s)
  have ty : TyX K H' (.ref x) (.ref CF) := .base (.ins h1 Z.cls Z.cc Z.gs Z.tk Z.ob)
  have kl : PySem.W.kitOne K (.ref CF) (.type "list") = some false := by
    have := Z.seqF
    simp only [seqs, PySem.W.kitAny] at this
    split at this
    · cases this
    · assumption
    · cases this
  have ok : okD (.tuple (es.map eP)) := by
    simp only [okD]
    exact okDs_all fun d hd => by
      obtain ⟨e, he, rfl⟩ := List.mem_map.mp hd
      exact eP_ok (ed e he)
  have cp := caps_all (n := 185) (l := es.map eP) fun d hd => by
    obtain ⟨e, he, rfl⟩ := List.mem_map.mp hd
    rw [eP_cap]
    exact Nat.le_refl _
  have dp := depth_all (n := 2) (l := es.map eP) fun d hd => by
    obtain ⟨e, he, rfl⟩ := List.mem_map.mp hd
    rw [eP_depth]
    exact Nat.le_refl _
  have nd : PyData.hasDictAll (es.map eP) = false := flat_all fun d hd => by
    obtain ⟨e, he, rfl⟩ := List.mem_map.mp hd
    exact eP_dict e
  rw [List.length_map] at cp
  refine ⟨.ref x, rfl, .inl ⟨.ref CF, _, ty, Z.heldF, Z.seqF, kl, .fig (h.more s) (dv.more s) (shows_of _ ok) (by show PyData.depthAll (es.map eP) + 1 ≤ 60; omega) ?_ nd, q⟩⟩
  have sl := shown_le _ ok
  have : cap (.tuple (es.map eP)) = caps (es.map eP) + 3 := rfl
  exact Nat.le_trans (show (PyData.tuple (es.map eP)).shown.length + 10 ≤ 100000 by omega) (by decide)
/-- a tuple of small things, no edge among them -/
theorem cau_small (Z : Kf K mg CF CH) {a : Addr} {xs : List V} {ds : List PyData} (h : H a = some (.tup xs)) (dv : DVs H xs ds) (it : ∀ d ∈ ds, Item d ∧ d.hasDict = false) (ln : ds.length ≤ 300) (bad : ∃ d ∈ ds, edgeB d = false) : Cau1 K CF CH H (.ref a) := fun H' s Q E q => by
  have nd : PyData.hasDictAll ds = false := flat_all fun d hd => (it d hd).2
  exact ⟨.ref a, rfl, .inr (.inl ⟨a, xs, ds, _, rfl, s _ _ h, dv.more s, fun d hd => (it d hd).1.fl, by omega, bad, .dat (.base (.tup (s _ _ h))) (Z.figT _ (by decide)) (shown_tup (s _ _ h) (dv.more s) (fun d hd => (it d hd).1) (by omega) fun z => by rw [nd] at z; cases z), q⟩)⟩
theorem item_i {i : Int} (h : i.natAbs ≤ 1000) : Item (.int i) := ⟨okI h, by show 0 ≤ 5; decide, by show 41 ≤ 10000; decide, fun p r e => by cases e⟩
theorem item_p {p : Pt} (h1 : p.1.natAbs ≤ 1000) (h2 : p.2.natAbs ≤ 1000) : Item (ptP p) := by
  refine ⟨by simp only [ptP, okD, okDs]; exact ⟨okI h1, okI h2, trivial⟩, by show 1 ≤ 5; decide, by show 89 ≤ 10000; decide, fun a r e => ?_⟩
  have er : r = .int p.2 := by
    have := PyData.tuple.inj e
    simp only [List.cons.injEq] at this
    exact this.2.1.symm
  subst er
  exact ⟨rfl, rfl⟩
/-- what a dict of numbers holds are items of the list -/
theorem putK_vals {kvs : List (Key × V)} {k : Key} {v : V} {S : V → Prop} (h : ∀ p ∈ kvs, S p.2) (hv : S v) : ∀ p ∈ putK kvs k v, S p.2 := fun p hp => by
  unfold putK at hp
  split at hp
  · obtain ⟨q, hq, rfl⟩ := List.mem_map.mp hp
    by_cases e : q.1 = k
    · rw [if_pos e]
      exact hv
    · rw [if_neg e]
      exact h q hq
  · rcases List.mem_append.mp hp with hp | hp
    · exact h p hp
    · have : p = (k, v) := by simpa using hp
      subst this
      exact hv
theorem heldI_vals {xs : List V} {ds : List PyData} (h : xs.length = ds.length) : ∀ i, i ≤ xs.length → ∀ p ∈ heldI xs ds i, p.2 ∈ xs
  | 0, _ => fun p hp => by cases hp
  | i + 1, hi => by
    rw [heldI_succ (List.getElem?_eq_getElem (show i < xs.length by omega)) (List.getElem?_eq_getElem (show i < ds.length by omega))]
    exact putK_vals (S := fun v => v ∈ xs) (heldI_vals h i (by omega)) (List.getElem_mem _)
theorem vals_es {xs : List V} {es : List Eg} (dv : DVs H xs (es.map eP)) : ∀ {vs : List V}, (∀ v ∈ vs, v ∈ xs) → ∃ es' : List Eg, DVs H vs (es'.map eP) ∧ (∀ e ∈ es', e ∈ es) ∧ es'.length = vs.length
  | [], _ => ⟨[], .nil, (fun e he => (List.not_mem_nil he).elim), rfl⟩
  | v :: vs, h => by
    obtain ⟨es', d', m', l'⟩ := vals_es dv (vs := vs) fun w hw => h w (List.mem_cons_of_mem _ hw)
    obtain ⟨i, hi⟩ := List.getElem?_of_mem (h v List.mem_cons_self)
    obtain ⟨d, hd, hv⟩ := dv.at i v hi
    rw [List.getElem?_map] at hd
    obtain ⟨e, he, rfl⟩ := Option.map_eq_some_iff.mp hd
    exact ⟨e :: es', .cons hv d', fun z hz => by
      rcases List.mem_cons.mp hz with rfl | hz
      · exact List.mem_of_getElem? he
      · exact m' z hz, by simp [l']⟩
theorem good_vals {xs : List V} {es : List Eg} {kvs : List (Key × V)} (dv : DVs H xs (es.map eP)) (g : Good xs (es.map eP) kvs) : ∃ es' : List Eg, DVs H (kvs.map (·.2)) (es'.map eP) ∧ (∀ e ∈ es', e ∈ es) ∧ es'.length = kvs.length := by
  obtain ⟨es', a, b, c⟩ := vals_es dv (vs := kvs.map (·.2)) fun v hv => by
    obtain ⟨p, hp, rfl⟩ := List.mem_map.mp hv
    have := heldI_vals dv.length xs.length (Nat.le_refl _) p
    rw [heldI_all dv.length] at this
    exact this (g.1.mem_iff.mp hp)
  exact ⟨es', a, b, by rw [c, List.length_map]⟩
end
end V1
set_option Elab.async false
set_option linter.all false
set_option maxRecDepth 100000
set_option maxHeartbeats 16000000
/-! The end of a round of the law. -/
namespace V1
open PySem PySem.Spec PyProof.Rows L2 Nv
def lawVal : List Stmt := forBody (lawOuter.getD 4 (.Pass ⟨0, 0, 0, 0⟩))
section
variable {P : Program} {w : World} {K : PySem.W.Frag} {mg : Str → Option Value} {base : Heap} {f : Addr} {cdv : Value} {A : Around} {outer : List Env} {s : Shared} {H0 : Hp} {E : XK} {CF CH C CT : Addr}
section
theorem val_ok {sp : Sp} (hsp : ∀ vs H Q E, spCau K CF CH vs H Q E → sp vs H Q E) (hr : Room 8 (A.deeper (envOfC "law" (defScope (top 28)) s.heap.objs.size f cdv))) (gd : (A.deeper (envOfC "law" (defScope (top 28)) s.heap.objs.size f cdv)).guards = some [])
    {fC : Addr} {fdC : FuncData} (GC : FnG P w K mg base 7 fC fdC ["_law_edges_here"] sp) (AC : At K mg "_law_caught" fC fdC ["_law_edges_here"]) :
    ∃ t, PSs (XL P w K mg base f cdv A outer s H0 E) lawVal t ∧ ∀ (D : Ends) (σ : L2.St) (v : V) (H : Hp), σ[10]? = some (some v) → Cau1 K CF CH H v → (∀ H', Same H H' → D.nx σ H') → t D σ H := by
  have hu64 : (A.deeper (envOfC "law" (defScope (top 28)) s.heap.objs.size f cdv)).units + 64 < cLine := by
    have := hr.un
    omega
  refine ⟨_, (pss_one (ps_if (pt_cmpR (op_neD hu64) (pe_callG GC gd (hr.mono (by decide)) rfl AC.g AC.k AC.b (pa_cons (pv 10) pa_nil)) (pe_lst (pa_cons pe_str (pa_cons pe_bl pa_nil))) (by rfl)) (pss_one (ps_ret pe_bl)) pss_nil)), ?_⟩
  intro D σ v H hv h q
  refine ⟨v, hv, ?_⟩
  show sp [v] H _ E0
  refine hsp _ _ _ _ (h H (same0 H) _ _ fun L H' s1 he => ⟨(by show 2 ≤ sizeLine; decide), fun L2 n2 => ?_⟩)
  have he2 : upd H' L2 (.lst [.str "edges", .bl true]) L = some (.lst [.str "edges", .bl true]) := stay he n2
  refine ⟨.list [.str "edges", .bool true], .list [.str "edges", .bool true], .lst (SqL.of he2) (.cons (.str _) (.cons (.bl _) .nil)), .lst (SqL.of upd_same) (.cons (.str _) (.cons (.bl _) .nil)), by decide +kernel, by decide +kernel, _, rfl, ifF (by decide +kernel) ?_⟩
  exact q _ fun b o e => stay (s1 _ _ e) n2
end
theorem tail_ok (hr : Room 8 (A.deeper (envOfC "law" (defScope (top 28)) s.heap.objs.size f cdv))) (gd : (A.deeper (envOfC "law" (defScope (top 28)) s.heap.objs.size f cdv)).guards = some []) (Z : Kf K mg CF CH)
    {fF : Addr} {fdF : FuncData} (M : Mk K CF fF) (GF : FnOk P w K mg base (L2N.CX P w) 5 fF fdF ["self", "edges"] (spFig K CF CH C CT)) (bF : Binds K fdF ["self", "edges"] [])
    {fC : Addr} {fdC : FuncData} (GC : FnG P w K mg base 7 fC fdC ["_law_edges_here"] (spCau K CF CH)) (AC : At K mg "_law_caught" fC fdC ["_law_edges_here"])
    {fM : Addr} {fdM : FuncData} (GM : FnG P w K mg base 8 fM fdM ["_law_box_here"] spMany) (AM : At K mg "_law_many" fM fdM ["_law_box_here"]) :
    ∃ t, PSs (XL P w K mg base f cdv A outer s H0 E) (lawOuter.drop 3) t ∧ ∀ (D : Ends) (a : Addr) (ns : List Int) (p ae : Addr) (m : Nat) (xs : List V) (es : List Eg) (q1 q4 q5 q6 q7 q8 q9 q10 : Option V) (H : Hp),
      m ≤ 800000 → In4 K H a ns p m ae xs es →
      (∀ H' o9 o10, Far K H' a (ns.map V.int) p → D.nx [some (.ref a), q1, some (.ref p), some (.ref ae), q4, q5, q6, q7, q8, o9, o10] H') →
      t D [some (.ref a), q1, some (.ref p), some (.ref ae), q4, q5, q6, q7, q8, q9, q10] H := by
  obtain ⟨tv, hv, gov⟩ := val_ok (P := P) (w := w) (K := K) (mg := mg) (base := base) (f := f) (cdv := cdv) (A := A) (outer := outer) (s := s) (H0 := H0) (E := E) (fun _ _ _ _ h => h) hr gd GC AC
  refine ⟨_, (pss_cons (ps_set (i := 9) scLaw.nd rfl (Or.inl rfl) (pe_lst (pa_cons pe_non (pa_cons pe_int (pa_cons pe_str (pa_cons pe_str (pa_cons pe_dnewK (pa_cons pe_bl (pa_cons (pe_disp (pps_cons pe_str pe_int pps_nil) rfl rfl (by simp) (by decide))
        (pa_cons (pe_makeS M GF (hr.mono (by decide)) rfl Z.gF bF (L2N.passAt takesN0) (pa_cons (pv 3) pa_nil))
        (pa_cons (pe_tup (pa_cons (pe_tup (pa_cons pe_int (pa_cons pe_int pa_nil))) (pa_cons (pe_tup (pa_cons pe_int (pa_cons pe_int pa_nil))) pa_nil))) (pa_cons (pe_tup (pa_cons pe_int (pa_cons pe_int pa_nil))) pa_nil))))))))))))
    (pss_cons (ps_for PassesOwn.never rfl (pi_list (pv 9)) (pg_name (i := 10) scLaw.nd rfl (Or.inl rfl)) hv)
    (pss_one (ps_if (pt_not (pt_val (pe_callG GM gd hr rfl AM.g AM.k AM.b (pa_cons (pv 2) pa_nil)))) (pss_one (ps_ret pe_bl)) pss_nil)))), ?_⟩
  intro D a ns p ae m xs es q1 q4 q5 q6 q7 q8 q9 q10 H hm i0 q
  have lx : xs.length = es.length := by rw [i0.dv.length, List.length_map]
  have ln := i0.ln
  refine fun d1 n1 => fun d2 n2 => ⟨upd_same, [((Sum.inr "a" : Key), .int 1)], rfl, by decide, ?_⟩
  have sA : Same H (upd H d1 (.dK [])) := fun b o e => stay e n1
  have eA : upd H d1 (.dK []) d1 = some (.dK []) := upd_same
  generalize upd H d1 (.dK []) = HA at n2 sA eA
  have sB : Same HA (upd (upd HA d2 (.dK [])) d2 (.dK (mergeK [] [((Sum.inr "a" : Key), V.int 1)]))) := fun b o e => by
    have nb : b ≠ d2 := fun z => by rw [z, n2] at e; cases e
    rw [upd_ne nb, upd_ne nb]
    exact e
  have eB : upd (upd HA d2 (.dK [])) d2 (.dK (mergeK [] [((Sum.inr "a" : Key), V.int 1)])) d2 = some (.dK [((Sum.inr "a" : Key), V.int 1)]) := upd_same
  generalize upd (upd HA d2 (.dK [])) d2 (.dK (mergeK [] [((Sum.inr "a" : Key), V.int 1)])) = HB at sB eB
  have sHB : Same H HB := fun b o e => sB _ _ (sA b o e)
  have iB := i0.same sHB
  refine ⟨_, rfl, fun y dy ny ndy ne => ?_⟩
  have s0 : Same HB (upd (upd HB dy (.own y)) y (.ins CF dy [])) := fun b o e => stay (stay e ndy) (by rw [upd_ne (Ne.symm ne)]; exact ny)
  have hy : upd (upd HB dy (.own y)) y (.ins CF dy []) y = some (.ins CF dy []) := upd_same
  generalize upd (upd HB dy (.own y)) y (.ins CF dy []) = HC at s0 hy
  have iC := iB.same s0
  have good : ∀ d ∈ es.map eP, edgeB d = true := fun d hd => by
    obtain ⟨e, he, rfl⟩ := List.mem_map.mp hd
    exact edgeB_of (i0.ed e he)
  refine ⟨y, dy, .ref ae, .type "list", true, rfl, hy, .base (.lst iC.at_), Z.heldT _ (by decide), rfl, (fun e => nomatch e), fun _ => ⟨ae, xs, es.map eP, rfl, ⟨.inl iC.at_, iC.dv, fun d hd => ?_, by rw [List.length_map]; omega⟩, fun bad => ?_, fun _ kvs g => ⟨fun big => ?_, fun few HD bt fig => ⟨rfl, ?_⟩⟩⟩⟩
  · obtain ⟨e, he, rfl⟩ := List.mem_map.mp hd
    exact eP_flat (i0.ed e he)
  · obtain ⟨d, hd, e⟩ := bad
    rw [good d hd] at e
    cases e
  · have := good_len iC.dv.length g
    rw [List.length_map] at this
    omega
  have sD : Same HB HD := fun b o e => bt b o (fun z => by rw [z, ny] at e; cases e) (s0 b o e)
  have iD := iB.same sD
  obtain ⟨es', dv', mem', len'⟩ := good_vals iD.dv g
  have ln' : es'.length ≤ 250 := by
    have := good_len iD.dv.length g
    rw [List.length_map] at this
    omega
  refine ⟨(by show 2 ≤ sizeLine; decide), fun t1 m1 => ⟨(by show 2 ≤ sizeLine; decide), fun t2 m2 => ⟨(by show 2 ≤ sizeLine; decide), fun t3 m3 => ⟨(by show 2 ≤ sizeLine; decide), fun t4 m4 => ⟨(by show 10 ≤ sizeLine; decide), fun L nL => ?_⟩⟩⟩⟩⟩
  have sL : Same HD (upd (upd (upd (upd (upd HD t1 (.tup [.int 0, .int 0])) t2 (.tup [.int 1, .int 0])) t3 (.tup [.ref t1, .ref t2])) t4 (.tup [.int 0, .int 0])) L (.lst [.non, .int 0, .str "", .str "edges", .ref d1, .bl true, .ref d2, .ref y, .ref t3, .ref t4])) := fun b o e => stay (stay (stay (stay (stay e m1) m2) m3) m4) nL
  have f1 : upd (upd (upd (upd (upd HD t1 (.tup [.int 0, .int 0])) t2 (.tup [.int 1, .int 0])) t3 (.tup [.ref t1, .ref t2])) t4 (.tup [.int 0, .int 0])) L (.lst [.non, .int 0, .str "", .str "edges", .ref d1, .bl true, .ref d2, .ref y, .ref t3, .ref t4]) t1 = some (.tup [.int 0, .int 0]) := stay (stay (stay (stay upd_same m2) m3) m4) nL
  have f2 : upd (upd (upd (upd (upd HD t1 (.tup [.int 0, .int 0])) t2 (.tup [.int 1, .int 0])) t3 (.tup [.ref t1, .ref t2])) t4 (.tup [.int 0, .int 0])) L (.lst [.non, .int 0, .str "", .str "edges", .ref d1, .bl true, .ref d2, .ref y, .ref t3, .ref t4]) t2 = some (.tup [.int 1, .int 0]) := stay (stay (stay upd_same m3) m4) nL
  have f3 : upd (upd (upd (upd (upd HD t1 (.tup [.int 0, .int 0])) t2 (.tup [.int 1, .int 0])) t3 (.tup [.ref t1, .ref t2])) t4 (.tup [.int 0, .int 0])) L (.lst [.non, .int 0, .str "", .str "edges", .ref d1, .bl true, .ref d2, .ref y, .ref t3, .ref t4]) t3 = some (.tup [.ref t1, .ref t2]) := stay (stay upd_same m4) nL
  have f4 : upd (upd (upd (upd (upd HD t1 (.tup [.int 0, .int 0])) t2 (.tup [.int 1, .int 0])) t3 (.tup [.ref t1, .ref t2])) t4 (.tup [.int 0, .int 0])) L (.lst [.non, .int 0, .str "", .str "edges", .ref d1, .bl true, .ref d2, .ref y, .ref t3, .ref t4]) t4 = some (.tup [.int 0, .int 0]) := stay upd_same nL
  have fL : upd (upd (upd (upd (upd HD t1 (.tup [.int 0, .int 0])) t2 (.tup [.int 1, .int 0])) t3 (.tup [.ref t1, .ref t2])) t4 (.tup [.int 0, .int 0])) L (.lst [.non, .int 0, .str "", .str "edges", .ref d1, .bl true, .ref d2, .ref y, .ref t3, .ref t4]) L = some (.lst [.non, .int 0, .str "", .str "edges", .ref d1, .bl true, .ref d2, .ref y, .ref t3, .ref t4]) := upd_same
  generalize upd (upd (upd (upd (upd HD t1 (.tup [.int 0, .int 0])) t2 (.tup [.int 1, .int 0])) t3 (.tup [.ref t1, .ref t2])) t4 (.tup [.int 0, .int 0])) L (.lst [.non, .int 0, .str "", .str "edges", .ref d1, .bl true, .ref d2, .ref y, .ref t3, .ref t4]) = HL at sL f1 f2 f3 f4 fL
  have sBL : Same HB HL := fun b o e => sL _ _ (sD b o e)
  have e1 := sBL _ _ (sB _ _ eA)
  have e2 := sBL _ _ eB
  have iL := iB.same sBL
  have all : ∀ v ∈ [V.non, .int 0, .str "", .str "edges", .ref d1, .bl true, .ref d2, .ref y, .ref t3, .ref t4], Cau1 K CF CH HL v := by
    have nos : ∀ (v : V) (d : PyData), d.hasDict = false → NoS HL v d := fun v d h z => by rw [h] at z; cases z
    intro v hv
    simp only [List.mem_cons, List.not_mem_nil, or_false] at hv
    rcases hv with rfl | rfl | rfl | rfl | rfl | rfl | rfl | rfl | rfl | rfl
    · exact cau_kind Z (n := "NoneType") (by simp) (.base .non) (.dat .non (by decide +kernel) (by decide) (by decide +kernel) (nos _ _ rfl))
    · exact cau_kind Z (n := "int") (by simp) (.base (.int _)) (.dat (.int 0) (by decide +kernel) (by decide) (by decide +kernel) (nos _ _ rfl))
    · exact cau_kind Z (n := "str") (by simp) (.base (.str _)) (.dat (.str "") (by decide +kernel) (by decide) (by decide +kernel) (nos _ _ rfl))
    · exact cau_kind Z (n := "str") (by simp) (.base (.str _)) (.dat (.str "edges") (by decide +kernel) (by decide) (by decide +kernel) (nos _ _ rfl))
    · exact cau_kind Z (n := "dict") (by simp) (.base (.dK e1)) (.dat (.emp e1) (by decide +kernel) (by decide) (by decide +kernel) fun _ => ⟨d1, [], [], rfl, .nil, rfl, .inr (.inr ⟨e1, rfl⟩)⟩)
    · exact cau_kind Z (n := "bool") (by simp) (.base (.bl _)) (.dat (.bl true) (by decide +kernel) (by decide) (by decide +kernel) (nos _ _ rfl))
    · exact cau_kind Z (n := "dict") (by simp) (.base (.dK e2)) (.one e2 (by decide +kernel) (by decide) (by decide +kernel))
    · exact cau_fig Z (fig.more sL) (dv'.more sL) (fun e he => i0.ed e (mem' e he)) ln'
    · refine cau_small Z f3 (ds := [ptP (0, 0), ptP (1, 0)]) (.cons (.tup f1 (.cons (.int _) (.cons (.int _) .nil))) (.cons (.tup f2 (.cons (.int _) (.cons (.int _) .nil))) .nil)) (fun d hd => ?_) (by decide) ⟨ptP (0, 0), by simp, by decide⟩
      simp only [List.mem_cons, List.not_mem_nil, or_false] at hd
      rcases hd with rfl | rfl
      · exact ⟨item_p (by decide) (by decide), rfl⟩
      · exact ⟨item_p (by decide) (by decide), rfl⟩
    · refine cau_small Z f4 (ds := [.int 0, .int 0]) (.cons (.int _) (.cons (.int _) .nil)) (fun d hd => ?_) (by decide) ⟨.int 0, by simp, by decide⟩
      simp only [List.mem_cons, List.not_mem_nil, or_false, or_self] at hd
      subst hd
      exact ⟨item_i (by decide), rfl⟩
  refine ⟨_, rfl, L, rfl, ⟨_, SqL.of fL⟩, for_list (K := K) (a := L) (xs := [V.non, .int 0, .str "", .str "edges", .ref d1, .bl true, .ref d2, .ref y, .ref t3, .ref t4]) (fun i σ H' => ∃ o10 : Option V, σ = [some (.ref a), q1, some (.ref p), some (.ref ae), q4, q5, q6, q7, q8, some (.ref L), o10] ∧ Same HL H') ⟨_, rfl, same0 _⟩ ?_ ?_ ?_⟩
  · rintro i σ H' hi ⟨o10, rfl, s'⟩
    exact SqL.of (s' _ _ fL)
  · rintro i v σ H' hv ⟨o10, rfl, s'⟩
    exact gov _ _ v H' rfl (fun H'' k => all v (List.mem_of_getElem? hv) H'' fun b o e => k _ _ (s' b o e)) fun H'' k => ⟨_, rfl, fun b o e => k _ _ (s' b o e)⟩
  · rintro σ H' ⟨o10, rfl, s'⟩
    have iE := iL.same s'
    refine ⟨_, rfl, p, m, rfl, iE.box, by omega, fun H'' kb bb => ⟨true, rfl, ?_⟩⟩
    exact q H'' _ _ (iE.far.but kb)
end
end V1
set_option Elab.async false
set_option linter.all false
set_option maxRecDepth 100000
set_option maxHeartbeats 16000000
/-! The law. -/
namespace V1
open PySem PySem.Spec PyProof.Rows L2 Nv
def spLaw (K : PySem.W.Frag) : Sp := fun vs H Q _ => ∃ (a : Addr) (ns : List Int), vs = [.ref a] ∧ SqL K H a (ns.map V.int) ∧ ns.length ≤ 63 ∧ ∀ H', Q (.bl true) H'
structure Tm (mg : Str → Option Value) : Prop where
  min : mg "min" = none
theorem rng_ok (l : Nat) : -(2 ^ 62) ≤ (if (if (l : Int) < (8 : Int) then (l : Int) else (8 : Int)) > 2 then (if (l : Int) < (8 : Int) then (l : Int) else (8 : Int)) else 2 : Int) ∧ (if (if (l : Int) < (8 : Int) then (l : Int) else (8 : Int)) > 2 then (if (l : Int) < (8 : Int) then (l : Int) else (8 : Int)) else 2 : Int) < 2 ^ 62 ∧
    (if (if (l : Int) < (8 : Int) then (l : Int) else (8 : Int)) > 2 then (if (l : Int) < (8 : Int) then (l : Int) else (8 : Int)) else 2 : Int).toNat ≤ 8 := by
  refine ⟨?_, ?_, ?_⟩ <;> (split <;> split <;> omega)
section
variable {P : Program} {w : World} {K : PySem.W.Frag} {mg : Str → Option Value} {base : Heap} {CF CH C CT : Addr}
theorem ok_law {f : Addr} {fd : FuncData} (F : Fun K "law" "law" (top 28) f fd) (T0 : Txt0 mg) (T : Ta mg) (B : Bi mg) (M0 : Tm mg) (Z : Kf K mg CF CH)
    {fE : Addr} {fdE : FuncData} (GE : FnOk P w K mg base CX0 1 fE fdE ["_law_script", "_law_k"] (spCell K)) (AE : At K mg "_law_cell_at" fE fdE ["_law_script", "_law_k"]) {fB : Addr} {fdB : FuncData} (GB : FnOk P w K mg base CX0 1 fB fdB ["_law_number"] spBox) (AB : At K mg "_law_box" fB fdB ["_law_number"])
    {fT : Addr} {fdT : FuncData} (GT : FnOk P w K mg base CX0 1 fT fdT ["_law_box_here", "_law_many_here"] spTake) (AT : At K mg "_law_take" fT fdT ["_law_box_here", "_law_many_here"])
    {fD : Addr} {fdD : FuncData} (GD : FnOk P w K mg base CX0 2 fD fdD ["_law_box_here", "_law_most"] spEdges) (AD : At K mg "_law_edges" fD fdD ["_law_box_here", "_law_most"])
    {fO : Addr} {fdO : FuncData} (GO : FnOk P w K mg base CX0 2 fO fdO ["_law_box_here"] spOddH) (AO : At K mg "_law_odd" fO fdO ["_law_box_here"])
    {fF : Addr} {fdF : FuncData} (M : Mk K CF fF) (GF : FnOk P w K mg base (L2N.CX P w) 5 fF fdF ["self", "edges"] (spFig K CF CH C CT)) (bF : Binds K fdF ["self", "edges"] [])
    {fC : Addr} {fdC : FuncData} (GC : FnG P w K mg base 7 fC fdC ["_law_edges_here"] (spCau K CF CH)) (AC : At K mg "_law_caught" fC fdC ["_law_edges_here"])
    {fM : Addr} {fdM : FuncData} (GM : FnG P w K mg base 8 fM fdM ["_law_box_here"] spMany) (AM : At K mg "_law_many" fM fdM ["_law_box_here"]) : FnG P w K mg base 9 f fd ["_law_script"] (spLaw K) := by
  refine FnG.made F scLaw (fun vs H Q E h => by obtain ⟨a, ns, rfl, _⟩ := h; rfl) (fun cdv A outer s H vs Q E gd hr h => ?_)
  obtain ⟨a, ns, rfl, hS, hlen, q⟩ := h
  obtain ⟨tt, ht, got⟩ := turn_ok (P := P) (w := w) (K := K) (mg := mg) (base := base) (f := f) (cdv := cdv) (A := A) (outer := outer) (s := s) (H0 := H) (E := E) hr gd T Z GT AT GO AO GC AC
  obtain ⟨te, he, goe⟩ := tail_ok (P := P) (w := w) (K := K) (mg := mg) (base := base) (f := f) (cdv := cdv) (A := A) (outer := outer) (s := s) (H0 := H) (E := E) hr gd Z M GF bF GC AC GM AM
  refine ⟨_, (pss_cons (ps_for PassesOwn.never rfl (pi_range1 rfl B.range (pa_cons (pe_callB (call_max2 rfl) (by rfl) T0.max (by decide +kernel) (pa_cons pe_int (pa_cons (pe_callB (call_min2 rfl) (by rfl) M0.min (by decide +kernel) (pa_cons pe_int (pa_cons (pe_callB call_len_seq (by rfl) T.len PySem.boot_len (pa_cons (pv 0) pa_nil)) pa_nil))) pa_nil))) pa_nil)) (pg_name (i := 1) scLaw.nd rfl (Or.inl rfl))
      (pss_cons (ps_set (i := 2) scLaw.nd rfl (Or.inl rfl) (pe_call GB (hr.mono (by decide)) rfl AB.g AB.k AB.b .nil pass0 (pa_cons (pe_call GE (hr.mono (by decide)) rfl AE.g AE.k AE.b .nil pass0 (pa_cons (pv 0) (pa_cons (pv 1) pa_nil))) pa_nil)))
      (pss_cons (ps_set (i := 3) scLaw.nd rfl (Or.inl rfl) (pe_call GD (hr.mono (by decide)) rfl AD.g AD.k AD.b .nil pass0 (pa_cons (pv 2) (pa_cons pe_int pa_nil))))
      (pss_cons (ps_for PassesOwn.never rfl (pi_range1 rfl B.range (pa_cons pe_int pa_nil)) (pg_name (i := 4) scLaw.nd rfl (Or.inl rfl)) ht)
      he))))
    (pss_one (ps_ret pe_bl))), ?_⟩
  refine ⟨_, rfl, a, _, rfl, .inl hS, _, _, rfl, _, _, rfl, _, rfl, (rng_ok _).1, (rng_ok _).2.1, ?_⟩
  refine for_range (lo := 0) (fun i σ H' => ∃ o1 o2 o3 o4 o5 o6 o7 o8 o9 o10 : Option V, σ = [some (.ref a), o1, o2, o3, o4, o5, o6, o7, o8, o9, o10] ∧ SqL K H' a (ns.map V.int)) ⟨_, _, _, _, _, _, _, _, _, _, rfl, hS⟩ ?_ ?_
  · rintro i σ H1 hi ⟨o1, o2, o3, o4, o5, o6, o7, o8, o9, o10, rfl, hS1⟩
    have i8 : i < 8 := Nat.lt_of_lt_of_le hi (rng_ok _).2.2
    refine ⟨_, rfl, _, rfl, a, ns, _, rfl, hS1, by omega, by omega, fun n0 => ⟨n0, rfl, fun p H2 np sm2 hb2 => ?_⟩⟩
    have far2 : Far K H2 a (ns.map V.int) p := Far.of hS1 np sm2
    refine ⟨_, rfl, p, 0, 3, rfl, hb2, by decide, by decide, by decide, fun ae xs es H3 ed ln k3 b3 h3 dv nae => ?_⟩
    have i3 : In4 K H3 a ns p 300 ae xs es := ⟨far2.but k3, b3.le (by decide), h3, dv, hb2.ne nae, ed, ln⟩
    refine ⟨8, rfl, by decide, by decide, ?_⟩
    refine for_range (lo := 0) (fun j σ H' => ∃ o4 o5 o6 o7 o8 o9 o10 : Option V, σ = [some (.ref a), some (.int (0 + (i : Int))), some (.ref p), some (.ref ae), o4, o5, o6, o7, o8, o9, o10] ∧ In4 K H' a ns p (300 + 9 * j) ae xs es) ⟨_, _, _, _, _, _, _, rfl, i3⟩ ?_ ?_
    · rintro j σ H4 hj ⟨o4, o5, o6, o7, o8, o9, o10, rfl, i4⟩
      have j8 : j < 8 := hj
      exact got _ a ns p ae (300 + 9 * j) xs es _ _ _ _ _ _ _ _ H4 (by omega) i4 fun H' o5 o6 o7 o8 i5 => ⟨_, _, _, _, _, _, _, rfl, i5.le (by omega)⟩
    · rintro σ H4 ⟨o4, o5, o6, o7, o8, o9, o10, rfl, i4⟩
      exact goe _ a ns p ae _ xs es _ _ _ _ _ _ _ _ H4 (by decide) i4 fun H' o9 o10 f' => ⟨_, _, _, _, _, _, _, _, _, _, rfl, f'.seq⟩
  · rintro σ H1 ⟨o1, o2, o3, o4, o5, o6, o7, o8, o9, o10, rfl, _⟩
    exact q H1
end
end V1
set_option Elab.async false
set_option linter.all false
set_option maxRecDepth 100000
set_option maxHeartbeats 16000000
/-! What the module says, together. -/
namespace V1
open PySem PySem.Spec PyProof.Rows L2 Nv
def intK (u : Option (Option Value)) (i : Int) : Bool := match u with
  | some (some (.int j _)) => decide (j = i)
  | _ => false
theorem intK_of {u : Option (Option Value)} {i : Int} (h : intK u i = true) : ∃ t, u = some (some (.int i t)) := by
  unfold intK at h
  split at h
  · exact ⟨_, by rw [of_decide_eq_true h]⟩
  · cases h
def tabB (K : PySem.W.Frag) (fI C CT : Addr) : Bool := metaB K fI && (classB K C fI && (classB K CT fI && (PySem.W.exmOne K (.ref C) (.ref C) == some true && (PySem.W.exmOne K (.ref CT) (.ref C) == some false && PySem.W.exmOne K (.ref CT) (.ref CT) == some true))))
def clsB (K : PySem.W.Frag) (C : Addr) : Bool := PySem.W.plainGet K C Str.empty && (PySem.W.hasDictIn K C && (PySem.W.plainOver K C && PySem.W.findIn K (.ref C) "__setattr__" == some (some (.builtin "object.__setattr__"))))
theorem clsB_of {K : PySem.W.Frag} {C : Addr} (h : clsB K C = true) : Cls K C := by
  unfold clsB at h
  simp only [Bool.and_eq_true, beq_iff_eq] at h
  exact ⟨h.1, h.2.1, h.2.2.1, h.2.2.2⟩
def noB (K : PySem.W.Frag) (C : Addr) (f : Str) : Bool := PySem.W.findIn K (.ref C) f == some none
/-- Figure and Held, as one look -/
def figB (K : PySem.W.Frag) (CF CH fL : Addr) : Bool := clsB K CF && (clsB K CH && (noB K CF "edges" && (noB K CF "_held" && (noB K CF "_letters" && (noB K CF "_forks" && (noB K CF "_ground" && (noB K CH "by_number" &&
  ((tyNs.all fun n => PySem.W.kitOne K (.type n) (.ref CH) == some false) && (PySem.W.kitOne K (.ref CF) (.ref CH) == some false && ((tyNs.all fun n => PySem.W.kitOne K (.type n) (.ref CF) == some false) && (PySem.W.kitOne K (.ref CF) (.ref CF) == some true && (PySem.W.kitAny K (.ref CF) seqs == some false &&
  (PySem.W.findIn K (.ref CF) "__class__" == some (some (.builtin "object.__class__")) && (PySem.W.specialIn K (.builtin "object.__class__") "__get__" == some (some (.builtin "getset_descriptor.__get__")) && (PySem.W.takesIn K (.builtin "object.__class__") == some true && (PySem.W.mroIn K CF (.type "object") == some true &&
  (PySem.W.makesIn K CF && (PySem.W.keepIn K (.ref CF) && PySem.W.isFn K (.ref fL)))))))))))))))))))
def mkB (K : PySem.W.Frag) (fG : Addr) : Bool := PySem.W.isFn K (.ref fG)
/-- the one default of __init__ -/
def oneB (its : Array Value) : Bool := match its.toList with
  | [.ref _] => true
  | _ => false
theorem oneB_of {its : Array Value} (h : oneB its = true) : ∃ e, its = [Value.ref e].toArray := by
  unfold oneB at h
  split at h
  · rename_i e he
    exact ⟨e, by rw [← he]⟩
  · cases h

theorem all_mk {P : Program} {w : World} {K : PySem.W.Frag} {h : Heap} {mg : Str → Option Value} {fa fI fG fL dT C0 C1 C2 C3 C4 f0 f1 f2 f3 f4 f5 f6 f7 f8 f9 f10 f11 f12 : Addr} (X : K.In h) (G : h.Ns mainGlobals mg) (hfa : mg "law" = some (.ref fa))
    {od0 an0 od1 an1 od2 an2 od3 an3 od4 an4 od5 an5 od6 an6 od7 an7 od8 an8 od9 an9 od10 an10 od11 an11 od12 an12 odI anI odG anG odL anL odT : Option Addr} {sl0 sl1 sl2 sl3 sl4 sl5 sl6 sl7 sl8 sl9 sl10 sl11 sl12 slI slG slL slT : Array (Option Value)} {oc0 kV0 dc0 pm0 cd0 ct0 oc1 kV1 dc1 pm1 cd1 ct1 oc2 kV2 dc2 pm2 cd2 ct2 oc3 kV3 dc3 pm3 cd3 ct3 oc4 kV4 dc4 pm4 cd4 ct4 oc5 kV5 dc5 pm5 cd5 ct5 oc6 kV6 dc6 pm6 cd6 ct6 oc7 kV7 dc7 pm7 cd7 ct7 oc8 kV8 dc8 pm8 cd8 ct8 oc9 kV9 dc9 pm9 cd9 ct9 oc10 kV10 dc10 pm10 cd10 ct10 oc11 kV11 dc11 pm11 cd11 ct11 oc12 kV12 dc12 pm12 cd12 ct12 ocI kVI dcI pmI cdI ctI ocG kVG dcG pmG cdG ctG ocL kVL dcL pmL cdL ctL ocT : Value} {itsT : Array Value} {nT : Nat}
    (e0 : PySem.W.nsIn K mainGlobals "InvalidEdges" = some (some (.ref C0)))
    (e1 : PySem.W.nsIn K mainGlobals "TooLarge" = some (some (.ref C1)))
    (e2 : PySem.W.nsIn K mainGlobals "NevercrossedError" = some (some (.ref C2)))
    (e3 : PySem.W.nsIn K mainGlobals "Figure" = some (some (.ref C3)))
    (e4 : PySem.W.nsIn K mainGlobals "Held" = some (some (.ref C4)))
    (aI : PySem.W.findIn K (.ref C2) "__init__" = some (some (.ref fI))) (lI : K.lookup fI = some ⟨ocI, odI, .func (PySem.W.fnOf "__init__" "NevercrossedError.__init__" (defArgs (inClass (top 2) 0)) (defBody (inClass (top 2) 0)) (defScope (inClass (top 2) 0)) .none kVI dcI pmI anI cdI ctI), slI⟩) (cI : PySem.W.codeIn K cdI "NevercrossedError.__init__" = true) (kI : PySem.W.keepIn K (.ref fI) = true)
    (aG : PySem.W.findIn K (.ref C3) "__init__" = some (some (.ref fG))) (lG : K.lookup fG = some ⟨ocG, odG, .func (PySem.W.fnOf "__init__" "Figure.__init__" (defArgs (inClass (top 14) 0)) (defBody (inClass (top 14) 0)) (defScope (inClass (top 14) 0)) (.ref dT) kVG dcG pmG anG cdG ctG), slG⟩) (cG : PySem.W.codeIn K cdG "Figure.__init__" = true) (kG : PySem.W.keepIn K (.ref fG) = true)
    (lT : K.lookup dT = some ⟨ocT, odT, .seq itsT nT, slT⟩) (bT : oneB itsT = true)
    (aL : PySem.W.findIn K (.ref C3) "__len__" = some (some (.ref fL))) (lL : K.lookup fL = some ⟨ocL, odL, .func (PySem.W.fnOf "__len__" "Figure.__len__" (defArgs sLen) (defBody sLen) (defScope sLen) .none kVL dcL pmL anL cdL ctL), slL⟩) (cL : PySem.W.codeIn K cdL "Figure.__len__" = true) (kL : PySem.W.keepIn K (.ref fL) = true)
    (a0 : PySem.W.nsIn K mainGlobals "edge_number" = some (some (.ref f0))) (l0 : K.lookup f0 = some ⟨oc0, od0, .func (PySem.W.fnOf "edge_number" "edge_number" (defArgs (top 9)) (defBody (top 9)) (defScope (top 9)) .none kV0 dc0 pm0 an0 cd0 ct0), sl0⟩) (c0 : PySem.W.codeIn K cd0 "edge_number" = true) (k0 : PySem.W.keepIn K (.ref f0) = true)
    (a1 : PySem.W.nsIn K mainGlobals "_has_truth" = some (some (.ref f1))) (l1 : K.lookup f1 = some ⟨oc1, od1, .func (PySem.W.fnOf "_has_truth" "_has_truth" (defArgs (top 10)) (defBody (top 10)) (defScope (top 10)) .none kV1 dc1 pm1 an1 cd1 ct1), sl1⟩) (c1 : PySem.W.codeIn K cd1 "_has_truth" = true) (k1 : PySem.W.keepIn K (.ref f1) = true)
    (a2 : PySem.W.nsIn K mainGlobals "_checked" = some (some (.ref f2))) (l2 : K.lookup f2 = some ⟨oc2, od2, .func (PySem.W.fnOf "_checked" "_checked" (defArgs (top 15)) (defBody (top 15)) (defScope (top 15)) .none kV2 dc2 pm2 an2 cd2 ct2), sl2⟩) (c2 : PySem.W.codeIn K cd2 "_checked" = true) (k2 : PySem.W.keepIn K (.ref f2) = true)
    (a3 : PySem.W.nsIn K mainGlobals "_ascending" = some (some (.ref f3))) (l3 : K.lookup f3 = some ⟨oc3, od3, .func (PySem.W.fnOf "_ascending" "_ascending" (defArgs (top 16)) (defBody (top 16)) (defScope (top 16)) .none kV3 dc3 pm3 an3 cd3 ct3), sl3⟩) (c3 : PySem.W.codeIn K cd3 "_ascending" = true) (k3 : PySem.W.keepIn K (.ref f3) = true)
    (a4 : PySem.W.nsIn K mainGlobals "_law_cell_at" = some (some (.ref f4))) (l4 : K.lookup f4 = some ⟨oc4, od4, .func (PySem.W.fnOf "_law_cell_at" "_law_cell_at" (defArgs sCell) (defBody sCell) (defScope sCell) .none kV4 dc4 pm4 an4 cd4 ct4), sl4⟩) (c4 : PySem.W.codeIn K cd4 "_law_cell_at" = true) (k4 : PySem.W.keepIn K (.ref f4) = true)
    (a5 : PySem.W.nsIn K mainGlobals "_law_box" = some (some (.ref f5))) (l5 : K.lookup f5 = some ⟨oc5, od5, .func (PySem.W.fnOf "_law_box" "_law_box" (defArgs sBox) (defBody sBox) (defScope sBox) .none kV5 dc5 pm5 an5 cd5 ct5), sl5⟩) (c5 : PySem.W.codeIn K cd5 "_law_box" = true) (k5 : PySem.W.keepIn K (.ref f5) = true)
    (a6 : PySem.W.nsIn K mainGlobals "_law_take" = some (some (.ref f6))) (l6 : K.lookup f6 = some ⟨oc6, od6, .func (PySem.W.fnOf "_law_take" "_law_take" (defArgs sTake) (defBody sTake) (defScope sTake) .none kV6 dc6 pm6 an6 cd6 ct6), sl6⟩) (c6 : PySem.W.codeIn K cd6 "_law_take" = true) (k6 : PySem.W.keepIn K (.ref f6) = true)
    (a7 : PySem.W.nsIn K mainGlobals "_law_edges" = some (some (.ref f7))) (l7 : K.lookup f7 = some ⟨oc7, od7, .func (PySem.W.fnOf "_law_edges" "_law_edges" (defArgs (top 23)) (defBody (top 23)) (defScope (top 23)) .none kV7 dc7 pm7 an7 cd7 ct7), sl7⟩) (c7 : PySem.W.codeIn K cd7 "_law_edges" = true) (k7 : PySem.W.keepIn K (.ref f7) = true)
    (a8 : PySem.W.nsIn K mainGlobals "_law_shown" = some (some (.ref f8))) (l8 : K.lookup f8 = some ⟨oc8, od8, .func (PySem.W.fnOf "_law_shown" "_law_shown" (defArgs (top 24)) (defBody (top 24)) (defScope (top 24)) .none kV8 dc8 pm8 an8 cd8 ct8), sl8⟩) (c8 : PySem.W.codeIn K cd8 "_law_shown" = true) (k8 : PySem.W.keepIn K (.ref f8) = true)
    (a9 : PySem.W.nsIn K mainGlobals "_law_caught" = some (some (.ref f9))) (l9 : K.lookup f9 = some ⟨oc9, od9, .func (PySem.W.fnOf "_law_caught" "_law_caught" (defArgs (top 25)) (defBody (top 25)) (defScope (top 25)) .none kV9 dc9 pm9 an9 cd9 ct9), sl9⟩) (c9 : PySem.W.codeIn K cd9 "_law_caught" = true) (k9 : PySem.W.keepIn K (.ref f9) = true)
    (a10 : PySem.W.nsIn K mainGlobals "_law_odd" = some (some (.ref f10))) (l10 : K.lookup f10 = some ⟨oc10, od10, .func (PySem.W.fnOf "_law_odd" "_law_odd" (defArgs (top 26)) (defBody (top 26)) (defScope (top 26)) .none kV10 dc10 pm10 an10 cd10 ct10), sl10⟩) (c10 : PySem.W.codeIn K cd10 "_law_odd" = true) (k10 : PySem.W.keepIn K (.ref f10) = true)
    (a11 : PySem.W.nsIn K mainGlobals "_law_many" = some (some (.ref f11))) (l11 : K.lookup f11 = some ⟨oc11, od11, .func (PySem.W.fnOf "_law_many" "_law_many" (defArgs (top 27)) (defBody (top 27)) (defScope (top 27)) .none kV11 dc11 pm11 an11 cd11 ct11), sl11⟩) (c11 : PySem.W.codeIn K cd11 "_law_many" = true) (k11 : PySem.W.keepIn K (.ref f11) = true)
    (a12 : PySem.W.nsIn K mainGlobals "law" = some (some (.ref f12))) (l12 : K.lookup f12 = some ⟨oc12, od12, .func (PySem.W.fnOf "law" "law" (defArgs (top 28)) (defBody (top 28)) (defScope (top 28)) .none kV12 dc12 pm12 an12 cd12 ct12), sl12⟩) (c12 : PySem.W.codeIn K cd12 "law" = true) (k12 : PySem.W.keepIn K (.ref f12) = true)
    (z_isinstance : PySem.W.nsIn K mainGlobals "isinstance" = some none)
    (z_int : PySem.W.nsIn K mainGlobals "int" = some none)
    (z_bool : PySem.W.nsIn K mainGlobals "bool" = some none)
    (z_tuple : PySem.W.nsIn K mainGlobals "tuple" = some none)
    (z_str : PySem.W.nsIn K mainGlobals "str" = some none)
    (z_len : PySem.W.nsIn K mainGlobals "len" = some none)
    (z_min : PySem.W.nsIn K mainGlobals "min" = some none)
    (z_max : PySem.W.nsIn K mainGlobals "max" = some none)
    (z_range : PySem.W.nsIn K mainGlobals "range" = some none)
    (z_abs : PySem.W.nsIn K mainGlobals "abs" = some none)
    (z_list : PySem.W.nsIn K mainGlobals "list" = some none)
    (z_repr : PySem.W.nsIn K mainGlobals "repr" = some none)
    (z_sorted : PySem.W.nsIn K mainGlobals "sorted" = some none)
    (tL : intK (PySem.W.nsIn K mainGlobals "LAST") 30 = true) (tS : intK (PySem.W.nsIn K mainGlobals "SIDE") 31 = true) (tM : intK (PySem.W.nsIn K mainGlobals "MOST_EDGES") 400 = true)
    (tb : tabB K fI C0 C1 = true) (tf : figB K C3 C4 fL = true) (tg : mkB K fG = true) :
    ∃ fd : FuncData, (∀ (s : Shared) (v : Value), BindsTo s fd ⟨[v], []⟩ [("_law_script", v)]) ∧ ∀ base : Heap, K.In base → base.Ns mainGlobals mg → FnG P w K mg base 9 fa fd ["_law_script"] (spLaw K) := by
  have e := hfa.symm.trans (PySem.W.mg_of X G a12)
  cases e
  have m_isinstance := PySem.W.mg_none_of X G z_isinstance
  have m_int := PySem.W.mg_none_of X G z_int
  have m_bool := PySem.W.mg_none_of X G z_bool
  have m_tuple := PySem.W.mg_none_of X G z_tuple
  have m_str := PySem.W.mg_none_of X G z_str
  have m_len := PySem.W.mg_none_of X G z_len
  have m_min := PySem.W.mg_none_of X G z_min
  have m_max := PySem.W.mg_none_of X G z_max
  have m_range := PySem.W.mg_none_of X G z_range
  have m_abs := PySem.W.mg_none_of X G z_abs
  have m_list := PySem.W.mg_none_of X G z_list
  have m_repr := PySem.W.mg_none_of X G z_repr
  have m_sorted := PySem.W.mg_none_of X G z_sorted
  unfold tabB at tb
  simp only [Bool.and_eq_true, beq_iff_eq] at tb
  obtain ⟨tb1, tb2, tb3, tb4, tb5, tb6⟩ := tb
  have Xe : Tie K mg C0 fI := ⟨class_of tb2 tb1, PySem.W.mg_of X G e0⟩
  have Xl : Ttl K mg C1 fI := ⟨class_of tb3 tb1, PySem.W.mg_of X G e1⟩
  have EX : Tex K mg C0 C1 C2 := ⟨tb4, tb5, tb6, PySem.W.mg_of X G e2⟩
  obtain ⟨t30, hL⟩ := intK_of tL
  obtain ⟨t31, hS⟩ := intK_of tS
  obtain ⟨t400, hM⟩ := intK_of tM
  unfold figB noB at tf
  simp only [Bool.and_eq_true, beq_iff_eq, List.all_eq_true] at tf
  obtain ⟨g1, g2, g3, g4, g5, g6, g7, g8, g9, g10, g11, g12, g13, g14, g15, g16, g17, g18, g19, g20⟩ := tf
  have Zf : Kf K mg C3 C4 := ⟨PySem.W.mg_of X G e3, PySem.W.mg_of X G e4, ⟨t400, PySem.W.mg_of X G hM⟩, clsB_of g1, clsB_of g2, g3, g4, g5, g6, g7, g8, g9, g10, g11, g12, g13, g14, g15, g16, g17⟩
  have Mf : Mk K C3 fG := ⟨g18, aG, tg, g19⟩
  have T0 : Txt0 mg := ⟨m_len, m_max⟩
  have Tt : Ta mg := ⟨m_isinstance, m_int, m_bool, m_tuple, m_str, m_len, t30, PySem.W.mg_of X G hL⟩
  have Bb : Bi mg := ⟨m_range, m_tuple, m_len, m_abs, m_list⟩
  have Ts : Tas mg := ⟨m_sorted, m_list⟩
  have R : Tsh mg := ⟨m_repr⟩
  have Mm : Tm mg := ⟨m_min⟩
  obtain ⟨eT, he⟩ := oneB_of bT
  have FI := fun_mk (st := inClass (top 2) 0) lI cI kI
  have bI := FI.binds (ps := ["self", "value"]) fun _ _ _ _ _ _ us hl => match us, hl with | [_, _], _ => rfl
  have FG : FunD K "__init__" "Figure.__init__" (defArgs (inClass (top 14) 0)) (defBody (inClass (top 14) 0)) (defScope (inClass (top 14) 0)) [.ref eT] [] fG _ := ⟨⟨ocG, odG, .ref dT, kVG, dcG, pmG, anG, cdG, ctG, slG, rfl, lG, cG, .inr ⟨by simp, dT, _, [Value.ref eT], nT, rfl, lT, by rw [he], .cons rfl .nil⟩, .inl rfl⟩, kG⟩
  have bF := bind_fig FG rfl
  have FL := fun_mk (st := sLen) lL cL kL
  have bL := FL.binds (ps := ["self"]) fun _ _ _ _ _ _ us hl => match us, hl with | [_], _ => rfl
  have F0 := fun_mk (st := (top 9)) l0 c0 k0
  have b0 := F0.binds (ps := ["value"]) fun _ _ _ _ _ _ us hl => match us, hl with | [_], _ => rfl
  have A0 : At K mg "edge_number" f0 _ ["value"] := ⟨PySem.W.mg_of X G a0, k0, b0⟩
  have F1 := fun_mk (st := (top 10)) l1 c1 k1
  have b1 := F1.binds (ps := ["x", "y"]) fun _ _ _ _ _ _ us hl => match us, hl with | [_, _], _ => rfl
  have A1 : At K mg "_has_truth" f1 _ ["x", "y"] := ⟨PySem.W.mg_of X G a1, k1, b1⟩
  have F2 := fun_mk (st := (top 15)) l2 c2 k2
  have b2 := F2.binds (ps := ["edges"]) fun _ _ _ _ _ _ us hl => match us, hl with | [_], _ => rfl
  have A2 : At K mg "_checked" f2 _ ["edges"] := ⟨PySem.W.mg_of X G a2, k2, b2⟩
  have F3 := fun_mk (st := (top 16)) l3 c3 k3
  have b3 := F3.binds (ps := ["held"]) fun _ _ _ _ _ _ us hl => match us, hl with | [_], _ => rfl
  have A3 : At K mg "_ascending" f3 _ ["held"] := ⟨PySem.W.mg_of X G a3, k3, b3⟩
  have F4 := fun_mk (st := sCell) l4 c4 k4
  have b4 := F4.binds (ps := ["_law_script", "_law_k"]) fun _ _ _ _ _ _ us hl => match us, hl with | [_, _], _ => rfl
  have A4 : At K mg "_law_cell_at" f4 _ ["_law_script", "_law_k"] := ⟨PySem.W.mg_of X G a4, k4, b4⟩
  have F5 := fun_mk (st := sBox) l5 c5 k5
  have b5 := F5.binds (ps := ["_law_number"]) fun _ _ _ _ _ _ us hl => match us, hl with | [_], _ => rfl
  have A5 : At K mg "_law_box" f5 _ ["_law_number"] := ⟨PySem.W.mg_of X G a5, k5, b5⟩
  have F6 := fun_mk (st := sTake) l6 c6 k6
  have b6 := F6.binds (ps := ["_law_box_here", "_law_many_here"]) fun _ _ _ _ _ _ us hl => match us, hl with | [_, _], _ => rfl
  have A6 : At K mg "_law_take" f6 _ ["_law_box_here", "_law_many_here"] := ⟨PySem.W.mg_of X G a6, k6, b6⟩
  have AV6 : AtV K mg "_law_take" f6 _ ["_law_box_here", "_law_many_here"] := ⟨PySem.W.mg_of X G a6, k6, b6⟩
  have F7 := fun_mk (st := (top 23)) l7 c7 k7
  have b7 := F7.binds (ps := ["_law_box_here", "_law_most"]) fun _ _ _ _ _ _ us hl => match us, hl with | [_, _], _ => rfl
  have A7 : At K mg "_law_edges" f7 _ ["_law_box_here", "_law_most"] := ⟨PySem.W.mg_of X G a7, k7, b7⟩
  have F8 := fun_mk (st := (top 24)) l8 c8 k8
  have b8 := F8.binds (ps := ["_law_value"]) fun _ _ _ _ _ _ us hl => match us, hl with | [_], _ => rfl
  have A8 : At K mg "_law_shown" f8 _ ["_law_value"] := ⟨PySem.W.mg_of X G a8, k8, b8⟩
  have F9 := fun_mk (st := (top 25)) l9 c9 k9
  have b9 := F9.binds (ps := ["_law_edges_here"]) fun _ _ _ _ _ _ us hl => match us, hl with | [_], _ => rfl
  have A9 : At K mg "_law_caught" f9 _ ["_law_edges_here"] := ⟨PySem.W.mg_of X G a9, k9, b9⟩
  have F10 := fun_mk (st := (top 26)) l10 c10 k10
  have b10 := F10.binds (ps := ["_law_box_here"]) fun _ _ _ _ _ _ us hl => match us, hl with | [_], _ => rfl
  have A10 : At K mg "_law_odd" f10 _ ["_law_box_here"] := ⟨PySem.W.mg_of X G a10, k10, b10⟩
  have F11 := fun_mk (st := (top 27)) l11 c11 k11
  have b11 := F11.binds (ps := ["_law_box_here"]) fun _ _ _ _ _ _ us hl => match us, hl with | [_], _ => rfl
  have A11 : At K mg "_law_many" f11 _ ["_law_box_here"] := ⟨PySem.W.mg_of X G a11, k11, b11⟩
  have F12 := fun_mk (st := (top 28)) l12 c12 k12
  refine ⟨PySem.W.fnOf "law" "law" (defArgs (top 28)) (defBody (top 28)) (defScope (top 28)) .none kV12 dc12 pm12 an12 cd12 ct12, fun s v => .of_eq rfl, fun base _ _ => ?_⟩
  have Gini := ok_ini (P := P) (w := w) (mg := mg) (base := base) FI
  have Gtr := ok_truth (P := P) (w := w) (mg := mg) (base := base) F1
  have Gen := ok_enum F0 Tt ⟨t31, PySem.W.mg_of X G hS⟩ Gtr A1
  have Gas := ok_asc (P := P) (w := w) (base := base) F3 Ts
  have Gck := ok_chk F2 Tt m_list Xe Gini bI Gen A0 Gas A3
  have Gfi := ok_fig FG Tt Xe Xl Zf Gini bI Gck A2
  have Gle := ok_lenF (P := P) (w := w) (base := base) FL Tt Zf
  have Gsh := ok_shown (P := P) (w := w) (base := base) F8 Tt R Zf
  have Gca := ok_caught F9 Tt m_list R Xe Xl Zf EX Mf Gfi bF Gsh A8 Gle bL aL g20
  have Gtk := ok_take (P := P) (w := w) (mg := mg) (base := base) F6
  have Gtk2 := fn_weak Gtk take_weak
  have Ged := fn_weak (ok_edgesD F7 Bb Gtk2 AV6) edges_weak
  have God := fn_weak (ok_oddE F10 Bb Gtk2 AV6) odd_weak
  have Gmy := ok_many F11 Tt Bb R Zf Gtk A6 Gca A9
  exact ok_law F12 T0 Tt Bb Mm Zf (ok_cell F4 T0) A4 (ok_box F5 T0) A5 Gtk A6 Ged A7 God A10 Mf Gfi bF Gca A9 Gmy A11
end V1
open PySem PySem.W PyProof.Rows
set_option Elab.async false
set_option maxRecDepth 100000 in
set_option maxHeartbeats 0 in
theorem PySem.Challenge.cw_nevercrossed_k04_figures_refused_holds : PySem.Challenge.rw_nevercrossed_k04_figures_refused.Holds := by
  w_on; o_law; k_head; (case hw => w_witness2)
  k_fill
  refine Nv.walkG (l := PySem.Challenge.rw_nevercrossed_k04_figures_refused) (n := 63) (k := 9) (x := "_law_script") (sp := V1.spLaw) rfl (by decide) rfl ⟨rfl, by decide, by decide⟩ (fun w h Y => PySem.W.kIn_of Y) ?F (fun K H a ns hl hS => ⟨a, ns, rfl, hS, hl, fun _ => rfl⟩)
  case F =>
    intro w mg fa h KX G hmg
    refine' V1.all_mk KX G hmg ?h_e0 ?h_e1 ?h_e2 ?h_e3 ?h_e4 ?h_aI ?h_lI ?h_cI ?h_kI ?h_aG ?h_lG ?h_cG ?h_kG ?h_lT ?h_bT ?h_aL ?h_lL ?h_cL ?h_kL ?h_a0 ?h_l0 ?h_c0 ?h_k0 ?h_a1 ?h_l1 ?h_c1 ?h_k1 ?h_a2 ?h_l2 ?h_c2 ?h_k2 ?h_a3 ?h_l3 ?h_c3 ?h_k3 ?h_a4 ?h_l4 ?h_c4 ?h_k4 ?h_a5 ?h_l5 ?h_c5 ?h_k5 ?h_a6 ?h_l6 ?h_c6 ?h_k6 ?h_a7 ?h_l7 ?h_c7 ?h_k7 ?h_a8 ?h_l8 ?h_c8 ?h_k8 ?h_a9 ?h_l9 ?h_c9 ?h_k9 ?h_a10 ?h_l10 ?h_c10 ?h_k10 ?h_a11 ?h_l11 ?h_c11 ?h_k11 ?h_a12 ?h_l12 ?h_c12 ?h_k12 ?h_z_isinstance ?h_z_int ?h_z_bool ?h_z_tuple ?h_z_str ?h_z_len ?h_z_min ?h_z_max ?h_z_range ?h_z_abs ?h_z_list ?h_z_repr ?h_z_sorted ?h_tL ?h_tS ?h_tM ?h_tb ?h_tf ?h_tg
    (case h_e0 => k_is)
    (case h_e1 => k_is)
    (case h_e2 => k_is)
    (case h_e3 => k_is)
    (case h_e4 => k_is)
    (case h_aI => k_is)
    (case h_lI => k_is)
    (case h_cI => k_is)
    (case h_kI => k_is)
    (case h_aG => k_is)
    (case h_lG => k_is)
    (case h_cG => k_is)
    (case h_kG => k_is)
    (case h_lT => k_is)
    (case h_bT => kernel_rfl)
    (case h_aL => k_is)
    (case h_lL => k_is)
    (case h_cL => k_is)
    (case h_kL => k_is)
    (case h_a0 => k_is)
    (case h_l0 => k_is)
    (case h_c0 => k_is)
    (case h_k0 => k_is)
    (case h_a1 => k_is)
    (case h_l1 => k_is)
    (case h_c1 => k_is)
    (case h_k1 => k_is)
    (case h_a2 => k_is)
    (case h_l2 => k_is)
    (case h_c2 => k_is)
    (case h_k2 => k_is)
    (case h_a3 => k_is)
    (case h_l3 => k_is)
    (case h_c3 => k_is)
    (case h_k3 => k_is)
    (case h_a4 => k_is)
    (case h_l4 => k_is)
    (case h_c4 => k_is)
    (case h_k4 => k_is)
    (case h_a5 => k_is)
    (case h_l5 => k_is)
    (case h_c5 => k_is)
    (case h_k5 => k_is)
    (case h_a6 => k_is)
    (case h_l6 => k_is)
    (case h_c6 => k_is)
    (case h_k6 => k_is)
    (case h_a7 => k_is)
    (case h_l7 => k_is)
    (case h_c7 => k_is)
    (case h_k7 => k_is)
    (case h_a8 => k_is)
    (case h_l8 => k_is)
    (case h_c8 => k_is)
    (case h_k8 => k_is)
    (case h_a9 => k_is)
    (case h_l9 => k_is)
    (case h_c9 => k_is)
    (case h_k9 => k_is)
    (case h_a10 => k_is)
    (case h_l10 => k_is)
    (case h_c10 => k_is)
    (case h_k10 => k_is)
    (case h_a11 => k_is)
    (case h_l11 => k_is)
    (case h_c11 => k_is)
    (case h_k11 => k_is)
    (case h_a12 => k_is)
    (case h_l12 => k_is)
    (case h_c12 => k_is)
    (case h_k12 => k_is)
    (case h_z_isinstance => k_is)
    (case h_z_int => k_is)
    (case h_z_bool => k_is)
    (case h_z_tuple => k_is)
    (case h_z_str => k_is)
    (case h_z_len => k_is)
    (case h_z_min => k_is)
    (case h_z_max => k_is)
    (case h_z_range => k_is)
    (case h_z_abs => k_is)
    (case h_z_list => k_is)
    (case h_z_repr => k_is)
    (case h_z_sorted => k_is)
    (case h_tL => kernel_rfl)
    (case h_tS => kernel_rfl)
    (case h_tM => kernel_rfl)
    (case h_tb => kernel_rfl)
    (case h_tf => kernel_rfl)
    (case h_tg => kernel_rfl)
#print axioms PySem.Challenge.cw_nevercrossed_k04_figures_refused_holds
