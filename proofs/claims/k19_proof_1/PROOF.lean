import PyProof.Rows.All
import Wide.All
import OpenK.AllK
import Wide.FinOn
import HandS.ForMost
import HandS.Exc
import HandS.ExcOwn
import PyProof.ReprRoads
import HandS.ExcInit
import HandS.ExcField
import HandS.IsInst
import KE.KExcIs
import KE.KTypeName
import HandS.TryOnly
import HandS.ExcCtx
import HandS.HotCalls
import HandS.Comp
import PyProof.StrLawsRepr
import PyProof.FitsInt
import HandS.Deep
import HandS.Wide
import HandS.WordsExc
import HandS.More
import HandS.HeadHook3
import PyProof.P3In
import HandS.List
import HandS.Dict
import HandS.Text
import HandS.WordsDict
import HandS.Codes
import HandS.Zip
import HandS.Words
import HandS.Replace
import HandS.FStr
import HandS.Conv
import HandS.Style
import PyProof.Rows.IntBool
import HandS.Sort
import HandS.SortInts
import HandS.DictComp
import KE.KDictSum
import HandS.Defaults
import KE.SortData
import HandS.SlotsOwn
import KE.KOpsOwn
import HandS.Iter
import KE.DataMinMax
import KE.GoesMore
import KE.KRevSl
import KE.DataFind
import PyProof.NeKinds
import HandS.TupMul
import PySem.Challenge.RW_nevercrossed_k19_faults_of_divisions
set_option Elab.async false
set_option linter.all false
set_option maxRecDepth 100000
set_option maxHeartbeats 4000000
/-! Calls made where no value is being shown (so that repr may be asked), and the end of a law for such defs. -/
namespace Nv
open PySem PySem.Spec PyProof.Rows L2

structure FnG (P : Program) (w : World) (K : PySem.W.Frag) (mg : Str → Option Value) (base : Heap) (k : Nat) (f : Addr) (fd : FuncData) (ps : List Str) (sp : Sp) : Prop where
  many : ∀ vs H Q E, sp vs H Q E → vs.length = ps.length
  does : ∀ (A : Around) (outer : List Env) (s : Shared) (H : Hp) (ar : Args) (us : List Value) (vs : List V) (Q : VK) (E : XK),
    A.guards = some [] → Room k A → Env0 P w K mg base A outer s H → BindsTo s fd ar (ps.zip us) → Vals vs us → sp vs H Q E →
    codeAny (model P w) A (.call (.ref f) ar) (CR CX0 outer P w H s Q E) s

theorem all_kinds {N ps : List Str} {sc : Scope} (S : FnScope N ps sc) (us : List Value) :
    ((ps.zip us).all fun y => sc.names.lookup y.1 == some .local || sc.names.lookup y.1 == some .cell) = true := by
  rw [List.all_eq_true]
  rintro ⟨x, v⟩ hy
  rcases S.par x (List.of_mem_zip hy).1 with q | q <;> simp [q]

section
variable {P : Program} {w : World} {K : PySem.W.Frag} {mg : Str → Option Value} {base : Heap}
theorem FnG.made {x qual : Str} {st : Stmt} {f : Addr} {fd : FuncData} {N ps : List Str} {k : Nat} {sp : Sp} (F : Fun K x qual st f fd) (S : FnScope N ps (defScope st))
    (many : ∀ vs H Q E, sp vs H Q E → vs.length = ps.length)
    (body : ∀ (cdv : Value) (A : Around) (outer : List Env) (s : Shared) (H : Hp) (vs : List V) (Q : VK) (E : XK), A.guards = some [] →
      Room k (A.deeper (envOfC qual (defScope st) s.heap.objs.size f cdv)) → sp vs H Q E →
      ∃ t, PSs (cxOf CX0 P w K mg base N qual (defScope st) f cdv A outer s H E).nox (defBody st) t ∧ t { nx := fun _ H' => Q .non H', rt := Q } (start N vs) H) :
    FnG P w K mg base (k + 1) f fd ps sp := by
  obtain ⟨oc, od, kV, doc, pm, an, cdv, ct, osl, rfl, lk, hcd⟩ := F.ex
  constructor
  · exact many
  intro A outer s H ar us vs Q E gd room env hb rel want
  obtain ⟨t, der, hq⟩ := body cdv A outer s H vs Q E gd (room.deeper _) want
  have inK : K.In s.heap := env.mod.kin.keeps fun b o z => (env.bs b o z).1
  have nolim : s.heap.NoLimit := env.mod.nolimit.keeps fun b o z => (env.bs b o z).1
  refine Att.call_fn inK nolim lk hcd room.depth hb (all_kinds S us) (fun s1 ic => ?_) S.co S.gen S.kind
  have J := inv_start (CX := CX0) (E := E) (N := N) S room.hd env (many _ _ _ _ want) rel ic
  refine wpAny_mono (der.nox.run [] s1 _ H _ J hq) ?_ fun _ _ z => z
  rintro (_ | _ | _ | u) s' z
  · obtain ⟨σ', H', J', q⟩ := z
    exact ⟨.non, H', J'.os, J'.bare, J'.base, J'.hok, rfl, q⟩
  · obtain ⟨_, _, _, q⟩ := z
    exact q.elim
  · obtain ⟨_, _, _, q⟩ := z
    exact q.elim
  · obtain ⟨v, σ', H', J', r, q⟩ := z
    exact ⟨v, H', J'.os, J'.bare, J'.base, J'.hok, r, q⟩
end

section
variable {X : Cx} {k : Nat} {f : Addr} {fd : FuncData} {ps : List Str} {sp : Sp} {x : Str} {p pos : Pos} {e : Expr} {es : List Expr} {t : TA}
/-- x(e, ..), nothing raised -/
theorem pe_callG (F : FnG X.prog X.w X.K X.mg X.base k f fd ps sp) (gd : X.A.guards = some []) (hr : Room k X.A) (hg : Gl X x) (hm : X.mg x = some (.ref f)) (hk : PySem.W.keepIn X.K (.ref f) = true)
    (hb : Binds X.K fd ps []) (ha : PA X (e :: es) t) (hdb : (x == ("__debug__" : Str)) = false := by decide)
    (he : starEach (e :: es) X.env = (false, eval e X.env) :: starEach es X.env := by rfl) (hpl : (backTo pos (starEach es X.env)).any (·.1) = false := by rfl) :
    PE X (.Call (.Name x p) (e :: es) [] pos) (tCall sp [] E0 t) := by
  constructor
  intro pins s σ H Q I h
  refine wpAny_Call_Name_kw (ld_glob I hg hm (PySem.W.callWith_K (h₀ := X.base) I.ok.mod.kin hk (thn (ha.run pos pins s σ H _ I h) ?_) he hpl) hdb)
  rintro us s1 ⟨vs, H1, I1, r, q⟩
  rw [List.append_nil] at q
  have lu : (us ++ ([] : List Value)).length = ps.length := by rw [List.append_nil, ← r.length]; exact F.many _ _ _ _ q
  have b := hb s1 us I1.kIn lu
  rw [List.append_nil] at b
  refine ⟨I1.kIn, wpAny_call (codeAny_mono (F.does X.A X.stack s1 H1 ⟨us, []⟩ us vs Q E0 gd hr I1.env0 b r q) ?_)⟩
  rintro (z | (_ | _ | _ | u)) s2 hz
  · exact hz.elim
  · exact hz.elim
  · exact hz.elim
  · exact hz.elim
  · exact I1.after hz
end
end Nv
set_option Elab.async false
set_option linter.all false
set_option maxRecDepth 100000
set_option maxHeartbeats 4000000
/-! The end of a law whose def shows values. -/
namespace Nv
open PySem PySem.Spec PyProof.Rows L2

section
variable {P : Program} {w : World} {K : PySem.W.Frag} {mg mb : Str → Option Value} {k : Nat} {fa a : Addr} {fd : FuncData} {x : Str} {sp : Sp} {s1 : Shared} {vs : List Value} {ns : List Int}
/-- nothing is tracked, or the script alone -/
structure Alone (s1 : Shared) (a : Addr) (vs : List Value) (ns : List Int) (H : Hp) : Prop where
  one : ∀ b u, H b = some u → b = a ∧ u = .frz { cls := .type "list", data := .seq vs.toArray } (.lst (ns.map V.int))
theorem Alone.dict_free {H : Hp} (z : Alone s1 a vs ns H) (ha : s1.heap.get? a = some { cls := .type "list", data := .seq vs.toArray }) {b : Addr} {o : Obj} {es : Array DictEntry} {ep : Nat} (e : s1.heap.get? b = some o) (d : o.data = .dict es ep) : H b = none := by
  cases q : H b with
  | none => rfl
  | some u =>
    have eb := (z.one b u q).1
    rw [eb, ha] at e
    cases e
    exact nomatch d
theorem Alone.ns_kept {H : Hp} (z : Alone s1 a vs ns H) (ha : s1.heap.get? a = some { cls := .type "list", data := .seq vs.toArray }) {b : Addr} {m : Str → Option Value} : s1.heap.Ns b m → (hidT s1.heap H).Ns b m := by
  rintro ⟨o, es, ep, e, d, r⟩
  exact ⟨o, es, ep, hidT_get e (z.dict_free ha e d), d, r⟩
theorem end_of (KX : K.In s1.heap) (hns : s1.heap.Ns mainGlobals mg) (hb : s1.heap.Ns builtinsNs mb) (hbb : ∀ x : Str, x ≠ "__name__" → mb x = bootBuiltins x) (hlim : s1.heap.NoLimit) (hg : s1.gens = #[])
    (ha : s1.heap.get? a = some { cls := .type "list", data := .seq vs.toArray }) (hr : Room k callerA)
    (F : ∀ base : Heap, K.In base → base.Ns mainGlobals mg → FnG P w K mg base k fa fd [x] sp) (hbind : ∀ (s : Shared) (u : Value), BindsTo s fd ⟨[u], []⟩ [(x, u)])
    {H : Hp} (z : Alone s1 a vs ns H) (nk : ∀ b u, H b = some u → K.lookup b = none) (hok : HOk P w H s1.heap) (want : sp [.ref a] H (fun v _ => v = .bl true) E0) :
    codeAny (model P w) callerA (.call (.ref fa) ⟨[.ref a], []⟩) (fun r s' => r = .ok (.ret (.bool true)) ∧ OldK s1.heap s'.heap ∧ s'.os = s1.os ∧ AllBare s'.gens) s1 := by
  have kb : K.In (hidT s1.heap H) := by
    intro b o e
    refine hidT_get (KX b o e) ?_
    cases q : H b with
    | none => rfl
    | some u =>
      rw [nk b u q] at e
      cases e
  obtain ⟨ml, l1, l2⟩ := hlim
  have md : Mod K mg (hidT s1.heap H) := { kin := kb, glob := z.ns_kept ha hns, blt := ⟨mb, z.ns_kept ha hb, hbb⟩, nolimit := ⟨ml, z.ns_kept ha l1, l2⟩ }
  have env : Env0 P w K mg (hidT s1.heap H) callerA [] s1 H := { frames := rfl, mod := md, bs := fun _ _ e => of_hidT e, bsz := Nat.le_of_eq (hidT_size _ _), funs := trivial, frf := fun b h => (List.not_mem_nil h).elim, hok := hok, bare := .of_eq hg }
  refine codeAny_mono ((F _ kb (z.ns_kept ha hns)).does callerA [] s1 H ⟨[.ref a], []⟩ [.ref a] [.ref a] _ E0 rfl hr env (hbind s1 (.ref a)) (.cons rfl .nil) want) ?_
  rintro (e | (_ | _ | _ | u)) s' h
  · exact h.elim
  · exact h.elim
  · exact h.elim
  · exact h.elim
  obtain ⟨v, H', os, bare, un, hok', rv, q⟩ := h
  subst q
  cases (show u = Value.bool true from rv)
  refine ⟨rfl, OldK.of_keep fun b o e => ?_, os, bare⟩
  cases q : H b with
  | none => exact un.keep b o e q List.not_mem_nil List.not_mem_nil
  | some t =>
    have et := (z.one b t q).2
    subst et
    have e1 := (hok b _ q).1
    rw [e] at e1
    cases e1
    exact (hok' b _ (un.frzs b _ _ q)).1
theorem law_endG (KX : K.In s1.heap) (hns : s1.heap.Ns mainGlobals mg) (hb : s1.heap.Ns builtinsNs mb) (hbb : ∀ x : Str, x ≠ "__name__" → mb x = bootBuiltins x) (hlim : s1.heap.NoLimit) (hg : s1.gens = #[])
    (ha : s1.heap.get? a = some { cls := .type "list", data := .seq vs.toArray }) (hi : IntsAre vs ns) (hl : ns.length ≤ sizeLine) (hr : Room k callerA)
    (F : ∀ base : Heap, K.In base → base.Ns mainGlobals mg → FnG P w K mg base k fa fd [x] sp) (hbind : ∀ (s : Shared) (u : Value), BindsTo s fd ⟨[u], []⟩ [(x, u)])
    (want : ∀ H : Hp, SqL K H a (ns.map V.int) → sp [.ref a] H (fun v _ => v = .bl true) E0) :
    codeAny (model P w) callerA (.call (.ref fa) ⟨[.ref a], []⟩) (fun r s' => r = .ok (.ret (.bool true)) ∧ OldK s1.heap s'.heap ∧ s'.os = s1.os ∧ AllBare s'.gens) s1 := by
  have rv := vals_ints hi
  by_cases hk : ∃ o, K.lookup a = some o
  · obtain ⟨o, hk⟩ := hk
    have eo : o = { cls := .type "list", data := .seq vs.toArray } := by
      have z := KX a o hk
      rw [ha] at z
      exact (Option.some.inj z).symm
    subst eo
    refine end_of (ns := ns) KX hns hb hbb hlim hg ha hr F hbind (H := fun _ => none) ⟨fun _ _ z => nomatch z⟩ (fun _ _ z => nomatch z) (fun _ _ z => nomatch z) (want _ (.inr ?_))
    exact ⟨_, vs.toArray, _, hk, rfl, rfl, rfl, by rw [List.size_toArray, hi.length]; exact hl, by simpa using rv⟩
  · have nk : K.lookup a = none := by
      cases q : K.lookup a with
      | none => rfl
      | some o => exact (hk ⟨o, q⟩).elim
    let H : Hp := fun b => if b = a then some (.frz { cls := .type "list", data := .seq vs.toArray } (.lst (ns.map V.int))) else none
    have at_a : H a = some (.frz { cls := .type "list", data := .seq vs.toArray } (.lst (ns.map V.int))) := if_pos rfl
    have al : Alone s1 a vs ns H := ⟨fun b u q => by
      by_cases eb : b = a
      · subst eb
        rw [at_a] at q
        exact ⟨rfl, (Option.some.inj q).symm⟩
      · rw [show H b = none from if_neg eb] at q
        cases q⟩
    refine end_of KX hns hb hbb hlim hg ha hr F hbind al (fun b u q => by rw [(al.one b u q).1]; exact nk) (fun b u q => ?_) (want H (.inl (.inr ⟨_, at_a⟩)))
    obtain ⟨rfl, rfl⟩ := al.one b u q
    exact ⟨ha, by rw [List.length_map]; exact hl, vs, _, rv, ha⟩
end

/-- the goal that the head leaves -/
theorem walkG {l : PySem.W.OpenLaw} {n k : Nat} {q : Program} {loose : List Str} {XP : (Str → Option Value) → Heap → Prop} {YP : World → Heap → Prop} {d : DefRec} {K : Params → PySem.W.Frag} {sp : PySem.W.Frag → Sp} {x : Str}
    (hn : l.most = some n) (hn2 : n ≤ sizeLine) (hdf : d.params.defaults = []) (hr : Room k callerA) (hY : ∀ (w : World) (h : Heap), YP w h → (K w.params).In h)
    (F : ∀ (w : World) (mg : Str → Option Value) (fa : Addr) (h : Heap), (K w.params).In h → h.Ns mainGlobals mg → mg d.name = some (.ref fa) →
      ∃ fd : FuncData, (∀ (s : Shared) (u : Value), BindsTo s fd ⟨[u], []⟩ [(x, u)]) ∧
        ∀ base : Heap, (K w.params).In base → base.Ns mainGlobals mg → FnG l.prog w (K w.params) mg base k fa fd [x] (sp (K w.params)))
    (want : ∀ (K : PySem.W.Frag) (H : Hp) (a : Addr) (ns : List Int), ns.length ≤ n → SqL K H a (ns.map V.int) → sp K [.ref a] H (fun v _ => v = .bl true) E0) :
    PySem.W.WalkO q loose XP YP l.row.toRowW d [] (fun f vs => PySem.call f vs) := by
  refine Att.attach_call hn hdf ?_
  intro w s₀ s₁ mg mb fa o pm cd doc a vs ns G Y _ _ _ hmg hobj hints hlen hg
  obtain ⟨fd, hb, hF⟩ := F w mg fa _ (hY w _ Y) G.T.g hmg
  exact law_endG (hY w _ Y) G.T.g G.T.b G.T.builtins G.T.nolimit hg hobj hints (Nat.le_trans hlen hn2) hr hF hb (fun H hS => want _ H a ns hlen hS)
end Nv
set_option Elab.async false
set_option linter.all false
set_option maxRecDepth 100000
set_option maxHeartbeats 4000000
/-! Data of any depth over the abstract heap; repr of them. -/
namespace Nv
open PySem PySem.Spec PyProof.Rows L2

mutual
/-- v is the datum d -/
inductive DV (H : Hp) : V → PyData → Prop
  | non : DV H .non .none
  | bl (b : Bool) : DV H (.bl b) (.bool b)
  | int (i : Int) : DV H (.int i) (.int i)
  | str (x : Str) : DV H (.str x) (.str x)
  | lst {a : Addr} {xs : List V} {ds : List PyData} (h : H a = some (.lst xs)) (r : DVs H xs ds) : DV H (.ref a) (.list ds)
  | tup {a : Addr} {xs : List V} {ds : List PyData} (h : H a = some (.tup xs)) (r : DVs H xs ds) : DV H (.ref a) (.tuple ds)
  | emp {a : Addr} (h : H a = some (.dK [])) : DV H (.ref a) (.dict [])
inductive DVs (H : Hp) : List V → List PyData → Prop
  | nil : DVs H [] []
  | cons {x : V} {xs : List V} {d : PyData} {ds : List PyData} (h : DV H x d) (r : DVs H xs ds) : DVs H (x :: xs) (d :: ds)
end

mutual
theorem DV.more {H H' : Hp} (k : Same H H') : ∀ {v : V} {d : PyData}, DV H v d → DV H' v d
  | _, _, .non => .non
  | _, _, .bl b => .bl b
  | _, _, .int i => .int i
  | _, _, .str x => .str x
  | _, _, .lst h r => .lst (k _ _ h) (r.more k)
  | _, _, .tup h r => .tup (k _ _ h) (r.more k)
  | _, _, .emp h => .emp (k _ _ h)
theorem DVs.more {H H' : Hp} (k : Same H H') : ∀ {vs : List V} {ds : List PyData}, DVs H vs ds → DVs H' vs ds
  | _, _, .nil => .nil
  | _, _, .cons h r => .cons (h.more k) (r.more k)
end

theorem DVs.length {H : Hp} : ∀ {vs : List V} {ds : List PyData}, DVs H vs ds → vs.length = ds.length
  | _, _, .nil => rfl
  | _, _, .cons _ r => by rw [List.length_cons, List.length_cons, r.length]
theorem DVs.at {H : Hp} : ∀ {vs : List V} {ds : List PyData}, DVs H vs ds → ∀ (i : Nat) (v : V), vs[i]? = some v → ∃ d, ds[i]? = some d ∧ DV H v d
  | _, _, .cons h r, 0, v, e => ⟨_, rfl, by cases e; exact h⟩
  | _, _, .cons h r, i + 1, v, e => r.at i v (by simpa using e)

theorem emp_reads {P : Program} {w : World} {H : Hp} {h : Heap} {a : Addr} {u : Value} (ok : HOk P w H h) (h1 : H a = some (.dK [])) (r : RelV (.ref a) u) : Reads h u (.dict []) [a] ∧ sysModules ∉ [a] := by
  obtain ⟨_, ns, vs, kv, o, es, ep, e, hx, hd, _, hp, _⟩ := ok a _ h1
  cases kv
  have ez : es.toList = [] := List.length_eq_zero_iff.mp hp.length
  rw [show u = Value.ref a from r]
  refine ⟨.dict (kvs := []) (as := []) (bs := []) e hx.1 hd (by rw [ez]; exact .nil) (by rw [ez]; exact .nil), fun z => ?_⟩
  rw [List.mem_singleton] at z
  rw [← z] at ns
  simp at ns

mutual
theorem DV.reads {P : Program} {w : World} {H : Hp} {h : Heap} (ok : HOk P w H h) : ∀ {v : V} {d : PyData} {u : Value}, DV H v d → RelV v u → ∃ as, Reads h u d as
  | _, _, u, .non, r => ⟨[], by rw [show u = Value.none from r]; exact .none⟩
  | _, _, u, .bl b, r => ⟨[], by rw [show u = Value.bool b from r]; exact .bool b⟩
  | _, _, u, .int i, ⟨t, e⟩ => ⟨[], by rw [e]; exact .int i t⟩
  | _, _, u, .str x, ⟨t, e⟩ => ⟨[], by rw [e]; exact .str x t⟩
  | _, _, u, .lst (a := a) (xs := xs) h1 q, r => by
    obtain ⟨_, its, n, rv, e⟩ := ok a _ h1
    obtain ⟨as, ra⟩ := q.reads ok rv
    refine ⟨a :: as, ?_⟩
    rw [show u = Value.ref a from r]
    exact .list e rfl rfl (by simpa using ra)
  | _, _, u, .tup (a := a) (xs := xs) h1 q, r => by
    obtain ⟨_, its, rv, o, e, hc, n, hd⟩ := ok a _ h1
    obtain ⟨as, ra⟩ := q.reads ok rv
    refine ⟨as, ?_⟩
    rw [show u = Value.ref a from r]
    exact .tuple e hc hd (by simpa using ra)
  | _, _, u, .emp (a := a) h1, r => ⟨_, (emp_reads ok h1 r).1⟩
theorem DVs.reads {P : Program} {w : World} {H : Hp} {h : Heap} (ok : HOk P w H h) : ∀ {vs : List V} {ds : List PyData} {us : List Value}, DVs H vs ds → Vals vs us → ∃ as, ReadsAll h us ds as
  | _, _, _, .nil, .nil => ⟨[], .nil⟩
  | _, _, _, .cons h1 q, .cons r rs => by
    obtain ⟨as, ra⟩ := h1.reads ok r
    obtain ⟨bs, rb⟩ := q.reads ok rs
    exact ⟨as ++ bs, .cons ra rb⟩
end

/-- what repr may be asked of -/
structure Nice (d : PyData) : Prop where
  shows : d.showable = true
  deep : d.depth ≤ 60
  long : d.shown.length ≤ sizeLine
  dic : d.hasDict = true → d = .dict []

theorem call_reprD {X : Cx} (gd : X.A.guards = some []) (hu : X.A.units + 100 < cLine) :
    CallR X (.builtin "repr") (fun xs H Q => ∃ v d, xs = [v] ∧ DV H v d ∧ Nice d ∧ Q (.str d.shown) H) := by
  rintro pins s σ H xs us Q I r ⟨v, d, rfl, dv, nz, q⟩
  cases r with
  | cons r0 rr =>
    cases rr
    rename_i u
    have fin : ∀ (h' : Heap) (t : Tok) (tk : Nat), (∀ b o, s.heap.get? b = some o → h'.get? b = some o) → EP X pins σ Q (.str d.shown t) { s with heap := h', toks := tk } :=
      fun h' t tk k => ⟨.str d.shown, H, I.kept (t' := tk) k, ⟨t, rfl⟩, q⟩
    have viaRef : ∀ (a : Addr) (as : List Addr), u = .ref a → Reads s.heap u d as → (d.hasDict = true → sysModules ∉ as) → wpAny (model X.prog X.w) X.A (call (.builtin "repr") [u]) (EP X pins σ Q) X.xe s := by
      rintro a as rfl rd hs
      exact repr_of_reads' rd nz.shows hs gd (by have := nz.deep; omega) (fun _ _ e => e) (fun h' t tk k => fin h' t tk k) nz.long
    have leaf : EP X pins σ Q (.str d.shown s.toks) { s with heap := s.heap, toks := s.toks + 1 } := fin s.heap s.toks (s.toks + 1) fun _ _ e => e
    obtain ⟨as, rd⟩ := dv.reads I.hok r0
    cases dv with
    | non =>
      cases (show u = Value.none from r0)
      exact P.repr_of_none (by simpa only [PyData.shown] using leaf)
    | bl b =>
      cases (show u = Value.bool b from r0)
      exact P.repr_of_bool (by simpa only [PyData.shown] using leaf)
    | int i =>
      obtain ⟨t, rfl⟩ := r0
      exact P.repr_of_int (by simpa [PyData.showable] using nz.shows) (by simpa only [PyData.shown] using leaf)
    | str x =>
      obtain ⟨t, rfl⟩ := r0
      exact P.repr_of_str (by simpa only [PyData.shown] using leaf) (by simpa only [PyData.shown] using nz.long)
    | lst h1 q1 => exact viaRef _ _ r0 rd fun z => nomatch nz.dic z
    | tup h1 q1 => exact viaRef _ _ r0 rd fun z => nomatch nz.dic z
    | @emp a h1 =>
      have z := emp_reads I.hok h1 r0
      exact viaRef _ _ r0 z.1 fun _ => z.2
end Nv
set_option Elab.async false
set_option linter.all false
set_option maxRecDepth 100000
set_option maxHeartbeats 4000000
/-! self.__class__.__name__ of an exception of a class of the program. -/
namespace PySem.W
open PySem PySem.Calls PyProof.Rows PyProof.V PySem.Spec Builtin Builtin.ObjectAttr Builtin.Getset_descriptor
section
variable {prog : Program} {w : World} {A : Around} {E : Value → Shared → Prop} {s : Shared} {K : Frag} {x C : Addr} {ox : Obj} {od : Option Obj} {name : Str}

theorem nm_classE {expr : Bool} {gt : Option Value} {Q : Value → Shared → Prop} (X : K.In s.heap) (I : InstAt s.heap x ox C od) (hga : findIn K (.ref C) "__getattribute__" = some (some (.builtin "BaseException.__getattribute__"))) (hgt : findIn K (.ref C) "__getattr__" = some gt)
    (hsub : subIn K (.ref C) (.type "BaseException") = some true) (hf : findObj K C od "__class__" = some (.bind (.builtin "getset_descriptor.__get__") (.builtin "object.__class__"))) (hm : mroIn K C (.type "object") = some true)
    (h : Q (.ref C) { s with toks := s.toks + 1 }) : wpAny (model prog w) A (getAttr (.ref x) "__class__" expr) Q E s := by
  obtain ⟨hp, g, d, t, os⟩ := s
  have L0 := I.type (M := model prog w)
  have L1 := looks_findIn (M := model prog w) X hga
  have L2 := looks_findIn (M := model prog w) X hgt
  have L3 := looks_find (M := model prog w) X I hf
  have sub : Looks (model prog w) hp (isInstance (.ref x) (.type "BaseException")) true := L0.andThen (looks_subIn X hsub)
  have hx0 : (expr && onTheHeap (Value.builtin "BaseException.__getattribute__")) = false := by cases expr <;> rfl
  have hx2 : (Value.builtin "BaseException.__getattribute__" == Value.builtin "object.__getattribute__") = false := by decide +kernel
  have hx1 : (onTheHeap (Value.ref C) && Value.builtin "BaseException.__getattribute__" == Value.builtin "object.__getattribute__") = false := by rw [hx2]; rfl
  unfold getAttr getAttrBy
  refine wpAny_bind (wpAny_mkText (wpAny_holding (wpAny_bind (L0.at (wpAny_bind (L1.at ?_))))))
  show wpAny _ _ (if (onTheHeap (Value.ref C) && Value.builtin "BaseException.__getattribute__" == Value.builtin "object.__getattribute__") = true then _ else _) _ _ _
  rw [hx1, if_neg Bool.false_ne_true]
  unfold getAttrByItsOwn hookBefore
  refine wpAny_bind ?_
  rw [if_pos (show onTheHeap (Value.ref C) = true from rfl)]
  refine L2.at ?_
  refine wpAny_bind (wpAny_attempt (wpAny_holding ?_))
  unfold callGetattribute
  rw [hx0, if_neg Bool.false_ne_true]
  unfold boundAndCalled
  rw [PySem.F.excAttr_ValueError.ga.bind (.ref x)]
  refine wpAny_bind (wpAny_pure ?_)
  show wpAny _ _ (call (.builtin "BaseException.__getattribute__") [.ref x, .str "__class__" t]) _ _ _
  refine wpAny_call (codeAny_call_builtin PySem.F.excAttr_ValueError.ga.plain PySem.F.entry_bexc_ga ?_)
  refine @PySem.W.check_slot (model prog w) _ _ ⟨hp, g, d, t + 1, os⟩ "BaseException.__getattribute__" "BaseException" "__getattribute__" (.ref x) [.str "__class__" t] [] _ (by decide +kernel) (by decide +kernel) sub (PySem.F.args_bexc_ga (.ref x) (.str "__class__" t)) ?_
  unfold Builtin.«object.__getattribute__»
  refine wpAny_bind (wpAny_of_eq (a := ((Value.ref x : Value), [Value.str "__class__" t])) (by first | rfl | (simp only [slotArgs]; rfl)) ?_)
  refine wpAny_bind (wpAny_pure (wpAny_bind (L0.at (wpAny_bind (L3.at ?_)))))
  refine wpAny_bind (wpAny_holding (wpAny_call (class_get (s := ⟨hp, g, d, t + 1, os⟩) (ox := ox) (od := od) X I hm ?_)))
  refine wpAny_pure ?_
  show wpAny _ _ (handedOut (.ref C)) _ _ _
  rw [handedOut_of (show handedIn (.ref C) = true from rfl)]
  first | exact wpAny_pure h | exact wpAny_pure (wpAny_pure h)

theorem nm_dga (d tp : Value) (C : Addr) : descrGetArgs ⟨[d, .ref C, tp], []⟩ = pure (d, some (.ref C), given tp) := by kernel_rfl
/-- the text that a class keeps as its name -/
def nameIn (K : Frag) (C : Addr) : Option (Str × Tok) := match K.lookup C with
  | some o => (match o.slots[2]? with
    | some (some (Value.str x t)) => some (x, t)
    | _ => none)
  | none => none
theorem nm_slot {M : Model} {n : Str × Tok} {Q : Option Value → Shared → Prop} (X : K.In s.heap) (hn : nameIn K C = some n) (h : Q (some (.str n.1 n.2)) s) : wpAny M A (slotAt C 2) Q E s := by
  unfold nameIn at hn
  split at hn
  · rename_i o ho
    split at hn
    · rename_i x t hs
      cases hn
      unfold slotAt
      refine wpAny_bind (wpAny_loadPart (X _ _ ho) (wpAny_pure ?_))
      rw [hs]
      exact h
    · cases hn
  · cases hn
theorem nm_get {tp : Value} {n : Str × Tok} {R : Result → Shared → Prop} (X : K.In s.heap) (ht : Looks (model prog w) s.heap (typeOf (.ref C)) (.type "type")) (hn : nameIn K C = some n) (h : R (.ok (.ret (.str n.1 n.2))) s) :
    codeAny (model prog w) A (.call (.builtin "getset_descriptor.__get__") ⟨[.builtin "type.__name__", .ref C, tp], []⟩) R s := by
  obtain ⟨hh, g, dr, t, os⟩ := s
  have L0 := ht
  have L1 : Looks (model prog w) hh (isSubtype (.type "type") (.type "type")) true := Looks.of_pure (by rw [isSubtype_type]; kernel_rfl)
  refine codeAny_call_builtin KF.slot_gs.plain KF.entry_gs (KF.slot_gs.check _ _ _ _ _ _ _ _ ktyn_type (KF.args_gs _ _ _) ?_)
  unfold Builtin.«getset_descriptor.__get__» descrGet
  rw [nm_dga]
  refine wpAny_bind (wpAny_pure ?_)
  unfold descrGetter descrCheckInstance descrNameAndClass isInstance
  simp only [ktyn_owner]
  repeat lk
  refine ⟨Code.quiet_builtin _ (by decide +kernel), codeAny_builtin ktyn_entry ?_⟩
  unfold Builtin.«type.__name__» keptObject
  dsimp only
  refine wpAny_bind (nm_slot (K := K) X hn ?_)
  first
    | exact wpAny_pure h
    | exact wpAny_pure (wpAny_pure h)
    | exact wpAny_bind (wpAny_pure h)
    | exact wpAny_bind (wpAny_pure (wpAny_pure h))
    | exact wpAny_bind (wpAny_bind (wpAny_pure (wpAny_pure h)))
theorem nm_name {expr : Bool} {n : Str × Tok} {Q : Value → Shared → Prop} (X : K.In s.heap) (hr : readsIn K C (.type "type") = true) (ht : typeIn K (.ref C) = some (.type "type"))
    (e : findCls K (.ref C) (.type "type") "__name__" = some (.get (.builtin "getset_descriptor.__get__") (.builtin "type.__name__") (.ref C) (.type "type"))) (hn : nameIn K C = some n)
    (h : Q (.str n.1 n.2) { s with toks := s.toks + 1 }) : wpAny (model prog w) A (getAttr (.ref C) "__name__" expr) Q E s := by
  refine cls_read X hr e ?_
  show wpAny _ _ (do ret (← holding [Value.builtin "type.__name__"] (call (.builtin "getset_descriptor.__get__") [.builtin "type.__name__", .ref C, .type "type"]))) _ _ _
  refine wpAny_bind (wpAny_holding (wpAny_call (nm_get (K := K) (s := { s with toks := s.toks + 1 }) X (looks_typeIn X ht) hn ?_)))
  exact wpAny_pure (handed_on rfl h)
end
end PySem.W

namespace Nv
open PySem PySem.Spec PyProof.Rows L2
/-- what is asked of an exception class whose instances' class's name is read -/
structure NmC (K : PySem.W.Frag) (C : Addr) : Prop where
  ga : PySem.W.findIn K (.ref C) "__getattribute__" = some (some (.builtin "BaseException.__getattribute__"))
  gt : PySem.W.findIn K (.ref C) "__getattr__" = some none
  sb : PySem.W.subIn K (.ref C) (.type "BaseException") = some true
  cl : (PySem.W.clsIn K C).isSome = true
  cc : PySem.W.findIn K (.ref C) "__class__" = some (some (.builtin "object.__class__"))
  gs : PySem.W.specialIn K (.builtin "object.__class__") "__get__" = some (some (.builtin "getset_descriptor.__get__"))
  tk : PySem.W.takesIn K (.builtin "object.__class__") = some true
  ob : PySem.W.mroIn K C (.type "object") = some true
  rd : PySem.W.readsIn K C (.type "type") = true
  ty : PySem.W.typeIn K (.ref C) = some (.type "type")
  fc : PySem.W.findCls K (.ref C) (.type "type") "__name__" = some (.get (.builtin "getset_descriptor.__get__") (.builtin "type.__name__") (.ref C) (.type "type"))
  nm : ∃ n, PySem.W.nameIn K C = some n
section
variable {X : Cx} {e : Expr} {te : TE} {pos : Pos}
/-- o.__class__, o an exception of ours -/
theorem pe_xcls (he : PE X e te) (hb : attributeBase e "__class__" X.env (eval e X.env) = eval e X.env := by rfl) :
    PE X (.Attribute e "__class__" pos) (fun σ H Q => te σ H fun y H1 => ∃ (a C dx : Addr) (fs : List (Str × V)), y = .ref a ∧ NmC X.K C ∧ H1 a = some (exo a C (some dx)) ∧ H1 dx = some (exd dx fs) ∧ Q (.ref C) H1) := by
  constructor
  intro pins s σ H Q I h
  refine attr_of hb (thn (he.run pins s σ H _ I h) ?_)
  rintro u s1 ⟨y, H1, I1, ry, a, C, dx, fs, rfl, T, ha, hd, q⟩
  cases (show u = Value.ref a from ry)
  obtain ⟨t1, ho⟩ := exo_at I1.hok ha
  obtain ⟨mA, hns, rel⟩ := exd_at I1.hok hd
  obtain ⟨od, hod, look⟩ := lookIn_ns hns
  exact PySem.W.nm_classE (od := some od) I1.kIn ⟨ho, rfl, rfl, hod⟩ T.ga T.gt T.sb (PySem.W.findObj_dataE T.cl T.cc T.gs T.tk) T.ob ⟨V.ref C, H1, I1.tok _, rfl, q⟩
/-- C.__name__ -/
theorem pe_cname (he : PE X e te) (hb : attributeBase e "__name__" X.env (eval e X.env) = eval e X.env := by rfl) :
    PE X (.Attribute e "__name__" pos) (fun σ H Q => te σ H fun y H1 => ∃ C, y = .ref C ∧ NmC X.K C ∧ ∀ n, Q (.str n) H1) := by
  constructor
  intro pins s σ H Q I h
  refine attr_of hb (thn (he.run pins s σ H _ I h) ?_)
  rintro u s1 ⟨y, H1, I1, ry, C, rfl, T, q⟩
  cases (show u = Value.ref C from ry)
  obtain ⟨⟨n, tk⟩, hn⟩ := T.nm
  exact PySem.W.nm_name I1.kIn T.rd T.ty T.fc hn ⟨V.str n, H1, I1.tok _, ⟨tk, rfl⟩, q n⟩
end
end Nv
set_option Elab.async false
set_option linter.all false
set_option maxRecDepth 100000
set_option maxHeartbeats 4000000
/-! An own exception (its __init__ stores one field) as a value: made, its field read, its class asked. -/
namespace Nv
open PySem PySem.Spec PyProof.Rows L2

/-- the fields of an exception of ours -/
def xf (n : Str) (v : V) : List (Str × V) := [(("name" : Str), .str n), (("value" : Str), v)]
/-- the dict of an exception of ours, made of v -/
def XD (H : Hp) (dx : Addr) (v : V) : Prop := ∃ n, H dx = some (.xd (xf n v))
theorem XD.of {H : Hp} {dx : Addr} {n : Str} {v : V} : XD (upd H dx (.xd (xf n v))) dx v := ⟨n, upd_same⟩
theorem xf_value {n : Str} {v : V} : (xf n v).lookup ("value" : Str) = some v := rfl
theorem xf_name {n : Str} {v : V} : (xf n v).lookup ("name" : Str) = some (.str n) := rfl
/-- __init__(self, value): self.value = value; self.name = self.__class__.__name__ -/
def spIni (K : PySem.W.Frag) : Sp := fun vs H Q _ => ∃ (a C : Addr) (v : V), vs = [.ref a, v] ∧ OexC K C ∧ PySem.W.findIn K (.ref C) "value" = some none ∧ PySem.W.findIn K (.ref C) "name" = some none ∧ NmC K C ∧ H a = some (exo a C none) ∧
  ∀ dx n, H dx = none → dx ≠ a → Q .non (upd (upd H dx (exd dx (xf n v))) a (exo a C (some dx)))
theorem ini_heap {H : Hp} {a C dx : Addr} {n : Str} {v : V} (ne : dx ≠ a) : upd (upd (upd H dx (exd dx [(("value" : Str), v)])) a (exo a C (some dx))) dx (exd dx [(("name" : Str), .str n), (("value" : Str), v)])
    = upd (upd H dx (exd dx (xf n v))) a (exo a C (some dx)) := by
  funext b
  by_cases e1 : b = dx
  · subst e1
    rw [upd_same, upd_ne ne, upd_same]
    rfl
  · rw [upd_ne e1]
    by_cases e2 : b = a
    · rw [e2, upd_same, upd_same]
    · rw [upd_ne e2, upd_ne e2, upd_ne e1, upd_ne e1]

section
variable {X : Cx} {C fI : Addr} {k : Nat} {fd : FuncData} {x : Str} {p pos : Pos} {e : Expr} {te : TE}
/-- what is needed to make one -/
structure MkX (K : PySem.W.Frag) (C fI : Addr) : Prop where
  ox : OexC K C
  ini : PySem.W.findIn K (.ref C) "__init__" = some (some (.ref fI))
  tyI : PySem.W.typeIn K (.ref fI) = some (.type "function")
  nov : PySem.W.findIn K (.ref C) "value" = some none
  nof : PySem.W.findIn K (.ref C) "name" = some none
  nmc : NmC K C
/-- what stands behind C(e): the exception at a, its own dict at dx -/
def mkxQ (C : Addr) (Q : VK) (v : V) (H1 : Hp) : Prop := ∀ a dx n, H1 a = none → H1 dx = none → dx ≠ a → Q (.ref a) (upd (upd H1 dx (exd dx (xf n v))) a (exo a C (some dx)))
def mkxA (C : Addr) (Q : VK) : List V → Hp → Prop
  | [v], H1 => mkxQ C Q v H1
  | _, _ => False
/-- C(e) -/
theorem pe_mkx (T : MkX X.K C fI) (F1 : FnOk X.prog X.w X.K X.mg X.base CX0 k fI fd ["self", "value"] (spIni X.K)) (hr : Room (k + 1) X.A) (hb : Binds X.K fd ["self", "value"] []) (hg : Gl X x) (hm : X.mg x = some (.ref C)) (he : PE X e te)
    (hs : starEach (e :: []) X.env = (false, eval e X.env) :: starEach [] X.env := by rfl) (hpl : (backTo pos (starEach [] X.env)).any (·.1) = false := by rfl) (hdb : (x == ("__debug__" : Str)) = false := by decide) :
    PE X (.Call (.Name x p) [e] [] pos) (fun σ H Q => te σ H fun v H1 => mkxQ C Q v H1) := by
  constructor
  intro pins s σ H Q I h
  obtain ⟨nm, q, N, bs, bm, sn, sub, ab, col, dd, k0, k1, k2, k3, k5, hC, hbm⟩ := T.ox.cls
  have arg : PA X [e] (tCons te tNil) := pa_cons he pa_nil hs
  refine wpAny_Call_Name_kw (ld_glob I hg hm (PySem.W.callWith_K (h₀ := X.base) I.ok.mod.kin T.ox.kC (thn (arg.run pos pins s σ H (mkxA C Q) I h) ?_) hs hpl) hdb)
  rintro us ⟨hp, g, dr, tk, os⟩ ⟨vs, H1, I1, r1, q1⟩
  obtain ⟨v, rfl⟩ : ∃ v, vs = [v] := by
    rcases vs with _ | ⟨v, _ | ⟨_, _⟩⟩
    · exact q1.elim
    · exact ⟨v, rfl⟩
    · exact q1.elim
  have q2 : mkxQ C Q v H1 := q1
  refine ⟨I1.kIn, ?_⟩
  cases r1 with
  | cons rv rr =>
    cases rr
    rename_i u
    have h2 : ((hp.push (PySem.W.kdv_tup [u])).push (PySem.HandSPX.excO C hp.objs.size)).get? (hp.objs.size + 1) = some (PySem.HandSPX.excO C hp.objs.size) := by heap_get
    have new : hp.objs.size ≤ hp.objs.size + 1 := Nat.le_succ _
    have J := I1.laid (t' := tk) (a := hp.objs.size + 1) (o := exo (hp.objs.size + 1) C none) (h' := (hp.push (PySem.W.kdv_tup [u])).push (PySem.HandSPX.excO C hp.objs.size))
      (fun _ _ z => Heap.get?_push_of_some _ (Heap.get?_push_of_some _ z)) new (exo_ok h2)
    have nH : H1 (hp.objs.size + 1) = none := I1.hok.fresh new
    have want : spIni X.K [.ref (hp.objs.size + 1), v] (upd H1 (hp.objs.size + 1) (exo (hp.objs.size + 1) C none)) (fun z H2 => z = .non ∧ Q (.ref (hp.objs.size + 1)) H2) E0 := by
      refine ⟨_, C, v, rfl, T.ox, T.nov, T.nof, T.nmc, upd_same, fun dx n nd ne => ⟨rfl, ?_⟩⟩
      have nd1 : H1 dx = none := by rw [upd_ne ne] at nd; exact nd
      have z := q2 _ dx n nH nd1 ne
      have eh : upd (upd (upd H1 (hp.objs.size + 1) (exo (hp.objs.size + 1) C none)) dx (exd dx (xf n v))) (hp.objs.size + 1) (exo (hp.objs.size + 1) C (some dx))
          = upd (upd H1 dx (exd dx (xf n v))) (hp.objs.size + 1) (exo (hp.objs.size + 1) C (some dx)) := by
        funext b
        by_cases e1 : b = hp.objs.size + 1
        · rw [e1, upd_same, upd_same]
        · rw [upd_ne e1, upd_ne e1]
          by_cases e2 : b = dx
          · rw [e2, upd_same, upd_same]
          · rw [upd_ne e2, upd_ne e2, upd_ne e1]
      rw [eh]
      exact z
    refine wpAny_call (PySem.HandSPX.call_own F.excBase_ValueError (fun Y => PySem.HandSPX.refsVE_contains Y bm hbm) (I1.kIn _ _ hC) (PySem.W.looks_findIn I1.kIn T.ini) (fun self => PySem.W.bind_fn I1.kIn self T.tyI) (by show 1 ≤ sizeLine; decide) ?_)
    refine codeAny_mono (F1.run _ X.stack _ _ ⟨[.ref (hp.objs.size + 1), u], []⟩ [.ref (hp.objs.size + 1), u] [.ref (hp.objs.size + 1), v] _ E0 (hr.make C [u] []) (J.env0.make C [u] []) (hb _ [.ref (hp.objs.size + 1), u] J.kIn rfl) (.cons rfl (.cons rv .nil)) want) ?_
    rintro (z | (_ | _ | _ | r)) s' hz
    · exact hz.elim
    · exact hz.elim
    · exact hz.elim
    · exact hz.elim
    · obtain ⟨v', H', I3, rv', ev, q3⟩ := J.after hz
      subst ev
      exact ⟨rv', ⟨.ref (hp.objs.size + 1), H', I3, rfl, q3⟩⟩

/-- o.n, o such an exception -/
theorem pe_xval {n : Str} (he : PE X e te) (hb : attributeBase e n X.env (eval e X.env) = eval e X.env := by rfl) :
    PE X (.Attribute e n pos) (fun σ H Q => te σ H fun y H1 => ∃ (a C dx : Addr) (fs : List (Str × V)) (v : V), y = .ref a ∧ XfC X.K C ∧ PySem.W.findIn X.K (.ref C) n = some none ∧ H1 a = some (exo a C (some dx)) ∧ H1 dx = some (exd dx fs) ∧ fs.lookup n = some v ∧ Q v H1) := by
  constructor
  intro pins s σ H Q I h
  refine attr_of hb (thn (he.run pins s σ H _ I h) ?_)
  rintro u s1 ⟨y, H1, I1, ry, a, C, dx, fs, v, rfl, T, nn, ha, hd, hl, q⟩
  cases (show u = Value.ref a from ry)
  obtain ⟨t1, ho⟩ := exo_at I1.hok ha
  obtain ⟨mA, hns, rel⟩ := exd_at I1.hok hd
  obtain ⟨od, hod, look⟩ := lookIn_ns hns
  have rn := rel n
  rw [hl] at rn
  obtain ⟨r, hr, rr⟩ := rn.some_of
  exact HandSPX.exc_get I1.kIn ⟨ho, rfl, rfl, hod⟩ T.ga T.gg T.exC (PySem.W.findObj_own T.hdC nn rfl (by rw [look, hr])) (handed_of rr) ⟨v, H1, I1.tok _, rr, q⟩

/-- an exception of the class at C stands at a -/
inductive XIn (H : Hp) (a C : Addr) : Prop
  | mk (dx : Addr) (u : HO) (φ : Heap → Prop) (ha : H a = some (.ext φ)) (hφ : ∀ h, φ h → ∃ ox, h.get? a = some ox ∧ ox.cls = .ref C ∧ ox.dict = some dx ∧ PySem.W.notCls ox = true)
      (hd : H dx = some u) (hu : (∃ fs, u = exd dx fs) ∨ ∃ fs, u = .xd fs)
theorem XIn.inst {P : Program} {w : World} {H : Hp} {h : Heap} {a C : Addr} (x : XIn H a C) (ok : HOk P w H h) : ∃ ox od, PySem.W.InstAt h a ox C od := by
  obtain ⟨dx, u, φ, ha, hφ, hd, hu⟩ := x
  obtain ⟨ox, g, c, d, n⟩ := hφ h (ok a _ ha).1
  have : ∃ o, h.get? dx = some o := by
    rcases hu with ⟨fs, rfl⟩ | ⟨fs, rfl⟩
    · obtain ⟨mA, ⟨o, _, _, e, _⟩, _⟩ := exd_at ok hd
      exact ⟨o, e⟩
    · obtain ⟨mA, ⟨o, _, _, e, _⟩, _⟩ := ok dx _ hd
      exact ⟨o, e⟩
  obtain ⟨o, ho⟩ := this
  exact ⟨ox, some o, g, c, n, by rw [d]; exact ho⟩
theorem XIn.of_made {H : Hp} {a C dx : Addr} {fs : List (Str × V)} (ha : H a = some (exo a C (some dx))) (hd : H dx = some (exd dx fs)) : XIn H a C :=
  .mk dx _ _ ha (fun h ⟨t, e⟩ => ⟨_, e, rfl, rfl, rfl⟩) hd (.inl ⟨fs, rfl⟩)
theorem XIn.more {H H' : Hp} {a C : Addr} (k : Same H H') (x : XIn H a C) : XIn H' a C := by
  obtain ⟨dx, u, φ, ha, hφ, hd, hu⟩ := x
  exact .mk dx u φ (k _ _ ha) hφ (k _ _ hd) hu

/-- what isinstance asks of the class -/
structure XCls (K : PySem.W.Frag) (C : Addr) : Prop where
  cl : (PySem.W.clsIn K C).isSome = true
  ga : PySem.W.findIn K (.ref C) "__getattribute__" = some (some (.builtin "BaseException.__getattribute__"))
  gt : PySem.W.findIn K (.ref C) "__getattr__" = some none
  sb : PySem.W.subIn K (.ref C) (.type "BaseException") = some true
  cc : PySem.W.findIn K (.ref C) "__class__" = some (some (.builtin "object.__class__"))
  gs : PySem.W.specialIn K (.builtin "object.__class__") "__get__" = some (some (.builtin "getset_descriptor.__get__"))
  tk : PySem.W.takesIn K (.builtin "object.__class__") = some true
  ob : PySem.W.mroIn K C (.type "object") = some true
theorem call_isX : CallR X (.builtin "isinstance") (fun xs H Q => ∃ (a C : Addr) (c : V) (cv : Value) (b : Bool), xs = [.ref a, c] ∧ XIn H a C ∧ XCls X.K C ∧ ClsV c cv ∧ PySem.W.kitOne X.K (.ref C) cv = some b ∧ Q (.bl b) H) := by
  rintro pins s σ H xs us Q I r ⟨a, C, c, cv, b, rfl, x, T, k, hk, q⟩
  obtain ⟨ox, od, J⟩ := x.inst I.hok
  cases r with
  | cons ra rr =>
    cases rr with
    | cons rc rr =>
      cases rr
      rename_i u1 u2
      cases (show u1 = Value.ref a from ra)
      have e2 := k.eq rc
      subst e2
      exact PySem.W.kia_one (PySem.W.kitx_exc T.cl T.ga T.gt T.sb T.cc T.gs T.tk T.ob) I.kIn J hk (fun z => nomatch z) fun tk => ⟨.bl b, H, I.tok tk, rfl, q⟩
end
end Nv
set_option Elab.async false
set_option linter.all false
set_option maxRecDepth 100000
set_option maxHeartbeats 4000000
/-! try with several except clauses, each with a name or none. -/
namespace Nv
open PySem PySem.Spec PyProof.Rows L2

/-- a clause: its class, its name's slot, its suite's reading -/
abbrev Clause := Value × Option Nat × (Addr → Value → Option Addr → TS)
/-- behind a suite its name's slot is empty -/
def blank (D : Ends) (i : Nat) : Ends :=
  { nx := fun σ H => D.nx (σ.set i none) H, rt := D.rt, bk := fun σ H => D.bk (σ.set i none) H, ct := fun σ H => D.ct (σ.set i none) H }
/-- what the clauses wish -/
def wHds (K : PySem.W.Frag) (Wout : WX) (D : Ends) : List Clause → WX
  | [] => Wout
  | (c, i, ts) :: r => fun cls d σ H => ∃ b, PySem.W.exmOne K cls c = some b ∧
      (b = true → ∀ a, H a = none → match i with
        | none => ts a cls d D σ H
        | some j => ts a cls d (blank D j) (σ.set j (some (.ref a))) H) ∧
      (b = false → wHds K Wout D r cls d σ H)
/-- a suite keeps its reading, whatever exception it holds -/
def SuiteOk (X : Cx) (suite : List Stmt) (ts : Addr → Value → Option Addr → TS) : Prop :=
  ∀ (a : Addr) (oe : Obj) (cls : Value) (d : Option Addr) (pn : List (Addr × Obj)), Zc cls d oe → (∃ vs, oe.data = .fields vs) → X.base.get? a = none → PSs (X.suite a ((a, oe) :: pn)) suite (ts a cls d)
inductive Hds (X : Cx) : List ExceptHandler → List Clause → Prop
  | nil : Hds X [] []
  | bare {x : Str} {c : Value} {ts : Addr → Value → Option Addr → TS} {b₀ : Stmt} {suite : List Stmt} {p p' : Pos} {hds : List ExceptHandler} {l : List Clause}
      (nm : Names X x c) (su : SuiteOk X (b₀ :: suite) ts) (r : Hds X hds l) : Hds X (.ExceptHandler (some (.Name x p)) none (b₀ :: suite) p' :: hds) ((c, none, ts) :: l)
  | named {x n : Str} {i : Nat} {c : Value} {ts : Addr → Value → Option Addr → TS} {b₀ : Stmt} {suite : List Stmt} {p p' : Pos} {hds : List ExceptHandler} {l : List Clause}
      (nm : Names X x c) (hi : X.N[i]? = some n) (hl : X.env.kindOf n = some .local) (su : SuiteOk X (b₀ :: suite) ts) (r : Hds X hds l) :
      Hds X (.ExceptHandler (some (.Name x p)) (some n) (b₀ :: suite) p' :: hds) ((c, some i, ts) :: l)

section
variable {X : Cx} {pins : List (Addr × Obj)} {σ : L2.St} {H : Hp} {a : Addr} {cls : Value} {d : Option Addr} {B : Heap} {sI s : Shared}
/-- an exception stands caught -/
structure Caught (X : Cx) (pins : List (Addr × Obj)) (σ : L2.St) (H : Hp) (a : Addr) (cls : Value) (d : Option Addr) (B : Heap) (sI s : Shared) : Prop where
  inv0 : Inv X pins σ H sI
  gr : ∀ b o, sI.heap.get? b = some o → b ∉ frs X.stack → B.get? b = some o
  up : sI.heap.UpToSlots s.heap
  os : s.os = sI.os
  ag : AllBare s.gens
  na : H a = none
  fl : HandSPX.FlyingZ B (X.env :: X.outer) a (Zc cls d) s.heap
theorem Caught.inv (z : Caught X pins σ H a cls d B sI s) : Inv X pins σ H s := z.inv0.landed z.gr z.fl.1 z.up z.os z.ag
theorem Caught.again (z : Caught X pins σ H a cls d B sI s) {h : Heap} (fl : HandSPX.FlyingZ B (X.env :: X.outer) a (Zc cls d) h) (u : s.heap.UpToSlots h) : Caught X pins σ H a cls d B sI { s with heap := h } :=
  ⟨z.inv0, z.gr, z.up.trans u, z.os, z.ag, z.na, fl⟩
theorem Caught.apart (z : Caught X pins σ H a cls d B sI s) : a ∉ frs (X.env :: X.outer) := by
  obtain ⟨oe, vs, he, _, hd⟩ := z.fl.there
  intro hm
  obtain ⟨_, o, ho, nf⟩ := z.fl.2.2.1.mem hm
  rw [he] at ho
  cases ho
  exact nf _ hd
theorem Caught.notBase (z : Caught X pins σ H a cls d B sI s) : X.base.get? a = none := by
  cases q : X.base.get? a with
  | none => rfl
  | some o =>
    have h1 := (z.inv0.bs a o q).1
    have h2 : a ∉ frs X.stack := fun hm => by
      rcases List.mem_cons.mp (z.inv0.stkSub a hm) with e | hf
      · exact absurd (Nat.lt_of_lt_of_le (Heap.lt_size q) z.inv0.ok.bsz) (by rw [e]; exact Nat.not_lt.mpr z.inv0.ok.above)
      · exact z.inv0.ok.nofr q hf
    exact absurd (z.gr a o h1 h2) (by rw [z.fl.2.1]; exact fun y => nomatch y)
theorem Caught.suite (z : Caught X pins σ H a cls d B sI s) (hf : X.env.frame = some X.env.locals) :
    ∃ oe, s.heap.get? a = some oe ∧ Zc cls d oe ∧ (∃ vs, oe.data = .fields vs) ∧ Inv (X.suite a ((a, oe) :: (X.pn ++ pins))) [] σ H s := by
  obtain ⟨oe, vs, he, hz, hd⟩ := z.fl.there
  have ap := z.apart
  have e0 : frs (X.env :: X.outer) = X.env.locals :: frs X.outer := by
    unfold frs
    rw [List.filterMap_cons, hf]
  rw [e0] at ap
  exact ⟨oe, he, hz, ⟨vs, hd⟩, z.inv.suite he hd z.na (fun e => ap (by rw [e]; exact List.mem_cons_self)) fun hm => ap (List.mem_cons_of_mem _ hm)⟩

variable {Wout : WX} {D : Ends}
theorem handled_by (hs : X.stack = X.env :: X.outer) (hf : X.env.frame = some X.env.locals) (hN : X.N.Nodup) (tk : Takes X Wout) {hds : List ExceptHandler} {l : List Clause} (hh : Hds X hds l) :
    ∀ s, Caught X pins σ H a cls d B sI s → wHds X.K Wout D l cls d σ H → wpAny (model X.prog X.w) X.A (handleBy (.ref a) X.env hds) (SP X pins D) X.xe s := by
  have look : ∀ {s : Shared} {x : Str} {c : Value} {p : Pos} {R : Value → Shared → Prop} {E1 : Value → Shared → Prop}, Caught X pins σ H a cls d B sI s → Names X x c → R c s →
      wpAny (model X.prog X.w) (X.A.mark (some (.ref a))) (eval (.Name x p) X.env) R E1 s := by
    intro s x c p R E1 z nm q
    obtain ⟨oe, _, _, _, S⟩ := z.suite hf
    obtain ⟨g, nd, h | ⟨h, hv, nn⟩⟩ := nm
    · exact ld_glob (X := X.suite a ((a, oe) :: (X.pn ++ pins))) S g h q nd
    · exact ld_blt (X := X.suite a ((a, oe) :: (X.pn ++ pins))) S g h hv q nn nd
  have asks : ∀ {s : Shared} {c : Value} {b : Bool}, Caught X pins σ H a cls d B sI s → PySem.W.exmOne X.K cls c = some b →
      PySem.W.Looks (model X.prog X.w) s.heap (excMatches (.ref a) c) b := by
    intro s c b z e
    obtain ⟨oe, he, hz, _, _⟩ := z.suite hf
    exact PySem.W.exm_one (M := model X.prog X.w) z.inv.kIn (fun A' Q' E' s' k q => wpAny_typeOf_ref (k _ _ he) (by rw [hz.1]; exact q)) e
  have ok := fun (s : Shared) (z : Caught X pins σ H a cls d B sI s) => z.inv0.ok
  induction hh with
  | nil =>
    intro s z w
    obtain ⟨_, _, _, oe, vs, T, _, _, he, _, hd, h1, _⟩ := id z.fl
    have up : wpAny (model X.prog X.w) X.A (setFlight (.ref a) X.env.frame) (fun _ s4 => wpAny (model X.prog X.w) X.A (throw (.ref a) : Sem Flow) (SP X pins D) X.xe s4) X.xe s := by
      rw [hf]
      refine HandSPX.setFlight_upZ z.fl fun h4 held u4 => wpAny_throw (tk _ _ ?_)
      exact ⟨a, B, sI, pins, σ, H, cls, d, rfl, z.inv0, z.gr, z.up.trans u4, .inr (.inr (by rw [hs]; exact held)), z.na, z.os, z.ag, w⟩
    refine wpAny_handleBy_nil ?_
    unfold PySem.passOn
    refine wpAny_bind (wpAny_field he hd h1 ?_)
    rw [if_neg (by simp)]
    first | exact wpAny_bind up | exact wpAny_bind (wpAny_pure (wpAny_bind up))
  | bare nm su r ih =>
    intro s z w
    obtain ⟨b, e, yes, no⟩ := w
    refine wpAny_handleBy_cons (codeAny_handlers_test (look z nm ((asks z e).here ?_))) (by intro q; cases q)
    rcases b with _ | _
    · exact ih s z (no rfl)
    refine codeAny_handlers_suite (HandSPX.lands_againZ z.fl fun h4 fl4 u4 => ?_)
    obtain ⟨oe, he, hz, hv, S⟩ := (z.again fl4 u4).suite hf
    refine wpAny_mono ((su a oe cls d (X.pn ++ pins) hz hv z.notBase).run [] _ σ H D S (yes rfl a z.na)) ?_ fun _ _ y => y.elim
    rintro (_ | _ | _ | u) s6 q
    · obtain ⟨σ6, H6, S6, q6⟩ := q
      exact ⟨σ6, H6, S6.unsuite (ok s z), q6⟩
    · obtain ⟨σ6, H6, S6, q6⟩ := q
      exact ⟨σ6, H6, S6.unsuite (ok s z), q6⟩
    · obtain ⟨σ6, H6, S6, q6⟩ := q
      exact ⟨σ6, H6, S6.unsuite (ok s z), q6⟩
    · obtain ⟨v6, σ6, H6, S6, r6, q6⟩ := q
      exact ⟨v6, σ6, H6, S6.unsuite (ok s z), r6, q6⟩
  | named nm hi hl su r ih =>
    intro s z w
    obtain ⟨b, e, yes, no⟩ := w
    refine wpAny_handleBy_cons (codeAny_handlers_test (look z nm ((asks z e).here ?_))) (by intro q; cases q)
    rcases b with _ | _
    · exact ih s z (no rfl)
    refine codeAny_handlers_suite_as (HandSPX.lands_againZ z.fl fun h4 fl4 u4 => ?_)
    obtain ⟨oe, he, hz, hv, S⟩ := (z.again fl4 u4).suite hf
    refine store_ok (X := X.suite a ((a, oe) :: (X.pn ++ pins))) (v := .ref a) S hN hi (.inl hl) rfl (fun s5 S5 => ?_) (.inr hl)
    refine wpAny_mono ((su a oe cls d (X.pn ++ pins) hz hv z.notBase).run [] s5 _ H _ S5 (yes rfl a z.na)) ?_ fun _ _ y => y.elim
    have wipes : ∀ {σ6 : L2.St} {H6 : Hp} {s6 : Shared} {R : Shared → Prop} {p' : Pos}, Inv (X.suite a ((a, oe) :: (X.pn ++ pins))) [] σ6 H6 s6 → (∀ s7, Inv X pins (σ6.set _ none) H6 s7 → R s7) →
        wpAny (model X.prog X.w) X.A (do bindName X.env _ .none; unbindBehindTheSuite X.env _ p') (fun _ s7 => R s7) X.xe s6 := fun S6 q => gone_ok (S6.unsuite (ok s z)) hN hi hl q
    rintro (_ | _ | _ | u) s6 q
    · obtain ⟨σ6, H6, S6, q6⟩ := q
      exact wipes S6 fun s7 J => ⟨_, H6, J, q6⟩
    · obtain ⟨σ6, H6, S6, q6⟩ := q
      exact wipes S6 fun s7 J => ⟨_, H6, J, q6⟩
    · obtain ⟨σ6, H6, S6, q6⟩ := q
      exact wipes S6 fun s7 J => ⟨_, H6, J, q6⟩
    · obtain ⟨v6, σ6, H6, S6, r6, q6⟩ := q
      exact wipes S6 fun s7 J => ⟨v6, _, H6, J, r6, q6⟩
end

/-- try: body, then the clauses -/
theorem ps_try_hds {X : Cx} {body : List Stmt} {h₀ : ExceptHandler} {hds : List ExceptHandler} {l : List Clause} {pos : Pos} {tb : WX → TS} {Wout : WX}
    (hs : X.stack = X.env :: X.outer) (hf : X.env.frame = some X.env.locals) (hN : X.N.Nodup) (tk : Takes X Wout)
    (hb : ∀ (W : WX) (pn : List (Addr × Obj)) (xe : Value → Shared → Prop), Takes (X.tr pn xe) W → PassesOwn (model X.prog X.w) X.A X.env xe → PSs (X.tr pn xe) body (tb W))
    (hh : Hds X (h₀ :: hds) l) : PS X (.Try body (h₀ :: hds) [] [] pos) (fun D σ H => tb (wHds X.K Wout D l) D σ H) := by
  constructor
  intro pins s σ H D I h
  have ok := I.ok
  let xe : Value → Shared → Prop := fun e s1 => wpAny (model X.prog X.w) X.A (noteFrame e X.env) (fun _ s2 => wpAny (model X.prog X.w) X.A (setFlight e none) (fun _ s3 =>
    wpAny (model X.prog X.w) X.A (handleBy e X.env (h₀ :: hds)) (SP X pins D) X.xe s3) X.xe s2) X.xe s1
  have takes : Takes (X.tr (X.pn ++ pins) xe) (wHds X.K Wout D l) := by
    rintro u s' ⟨a, B, sI, pins', σ', H', cls, d, rfl, J', gr, up, sky, na, os, ag, w⟩
    have J : Inv X pins σ' H' sI := J'.ofTry ok
    rw [show (X.tr (X.pn ++ pins) xe).stack = X.env :: X.outer from hs] at sky
    refine Sky.land Zc.steady (by rw [ok.frames, hs]) hf sky fun h3 fl up3 => ?_
    exact handled_by hs hf hN tk hh _ ⟨J, gr, up.trans up3, os, ag, na, fl⟩ w
  refine wpAny_Try_except (wpAny_mono ((hb _ (X.pn ++ pins) xe takes PassesOwn.looking).run [] s σ H D (I.toTry _) h) ?_ fun _ _ y => y)
  rintro (_ | _ | _ | u) s1 q
  · obtain ⟨σ', H', J, q⟩ := q
    exact wpAny_execs_nil ⟨σ', H', J.ofTry ok, q⟩
  · obtain ⟨σ', H', J, q⟩ := q
    exact ⟨σ', H', J.ofTry ok, q⟩
  · obtain ⟨σ', H', J, q⟩ := q
    exact ⟨σ', H', J.ofTry ok, q⟩
  · obtain ⟨v, σ', H', J, r, q⟩ := q
    exact ⟨v, σ', H', J.ofTry ok, r, q⟩
end Nv
set_option Elab.async false
set_option linter.all false
set_option maxRecDepth 100000
set_option maxHeartbeats 4000000
/-! The same for exceptions that were raised where nothing is handled (their context is None, which the suites may use). -/
namespace NvN
open PySem PySem.Spec PyProof.Rows L2 Nv

/-- a suite keeps its reading, whatever exception it holds -/
def SuiteOk (X : Cx) (suite : List Stmt) (ts : Addr → Value → Option Addr → TS) : Prop :=
  ∀ (a : Addr) (oe : Obj) (cls : Value) (d : Option Addr) (pn : List (Addr × Obj)), L2N.Zn cls d oe → (∃ vs, oe.data = .fields vs) → X.base.get? a = none → PSs (X.suite a ((a, oe) :: pn)) suite (ts a cls d)
inductive Hds (X : Cx) : List ExceptHandler → List Clause → Prop
  | nil : Hds X [] []
  | bare {x : Str} {c : Value} {ts : Addr → Value → Option Addr → TS} {b₀ : Stmt} {suite : List Stmt} {p p' : Pos} {hds : List ExceptHandler} {l : List Clause}
      (nm : Names X x c) (su : SuiteOk X (b₀ :: suite) ts) (r : Hds X hds l) : Hds X (.ExceptHandler (some (.Name x p)) none (b₀ :: suite) p' :: hds) ((c, none, ts) :: l)
  | named {x n : Str} {i : Nat} {c : Value} {ts : Addr → Value → Option Addr → TS} {b₀ : Stmt} {suite : List Stmt} {p p' : Pos} {hds : List ExceptHandler} {l : List Clause}
      (nm : Names X x c) (hi : X.N[i]? = some n) (hl : X.env.kindOf n = some .local) (su : SuiteOk X (b₀ :: suite) ts) (r : Hds X hds l) :
      Hds X (.ExceptHandler (some (.Name x p)) (some n) (b₀ :: suite) p' :: hds) ((c, some i, ts) :: l)

section
variable {X : Cx} {pins : List (Addr × Obj)} {σ : L2.St} {H : Hp} {a : Addr} {cls : Value} {d : Option Addr} {B : Heap} {sI s : Shared}
/-- an exception stands caught -/
structure Caught (X : Cx) (pins : List (Addr × Obj)) (σ : L2.St) (H : Hp) (a : Addr) (cls : Value) (d : Option Addr) (B : Heap) (sI s : Shared) : Prop where
  inv0 : Inv X pins σ H sI
  gr : ∀ b o, sI.heap.get? b = some o → b ∉ frs X.stack → B.get? b = some o
  up : sI.heap.UpToSlots s.heap
  os : s.os = sI.os
  ag : AllBare s.gens
  na : H a = none
  fl : HandSPX.FlyingZ B (X.env :: X.outer) a (L2N.Zn cls d) s.heap
theorem Caught.inv (z : Caught X pins σ H a cls d B sI s) : Inv X pins σ H s := z.inv0.landed z.gr z.fl.1 z.up z.os z.ag
theorem Caught.again (z : Caught X pins σ H a cls d B sI s) {h : Heap} (fl : HandSPX.FlyingZ B (X.env :: X.outer) a (L2N.Zn cls d) h) (u : s.heap.UpToSlots h) : Caught X pins σ H a cls d B sI { s with heap := h } :=
  ⟨z.inv0, z.gr, z.up.trans u, z.os, z.ag, z.na, fl⟩
theorem Caught.apart (z : Caught X pins σ H a cls d B sI s) : a ∉ frs (X.env :: X.outer) := by
  obtain ⟨oe, vs, he, _, hd⟩ := z.fl.there
  intro hm
  obtain ⟨_, o, ho, nf⟩ := z.fl.2.2.1.mem hm
  rw [he] at ho
  cases ho
  exact nf _ hd
theorem Caught.notBase (z : Caught X pins σ H a cls d B sI s) : X.base.get? a = none := by
  cases q : X.base.get? a with
  | none => rfl
  | some o =>
    have h1 := (z.inv0.bs a o q).1
    have h2 : a ∉ frs X.stack := fun hm => by
      rcases List.mem_cons.mp (z.inv0.stkSub a hm) with e | hf
      · exact absurd (Nat.lt_of_lt_of_le (Heap.lt_size q) z.inv0.ok.bsz) (by rw [e]; exact Nat.not_lt.mpr z.inv0.ok.above)
      · exact z.inv0.ok.nofr q hf
    exact absurd (z.gr a o h1 h2) (by rw [z.fl.2.1]; exact fun y => nomatch y)
theorem Caught.suite (z : Caught X pins σ H a cls d B sI s) (hf : X.env.frame = some X.env.locals) :
    ∃ oe, s.heap.get? a = some oe ∧ L2N.Zn cls d oe ∧ (∃ vs, oe.data = .fields vs) ∧ Inv (X.suite a ((a, oe) :: (X.pn ++ pins))) [] σ H s := by
  obtain ⟨oe, vs, he, hz, hd⟩ := z.fl.there
  have ap := z.apart
  have e0 : frs (X.env :: X.outer) = X.env.locals :: frs X.outer := by
    unfold frs
    rw [List.filterMap_cons, hf]
  rw [e0] at ap
  exact ⟨oe, he, hz, ⟨vs, hd⟩, z.inv.suite he hd z.na (fun e => ap (by rw [e]; exact List.mem_cons_self)) fun hm => ap (List.mem_cons_of_mem _ hm)⟩

variable {Wout : WX} {D : Ends}
theorem handled_by (hs : X.stack = X.env :: X.outer) (hf : X.env.frame = some X.env.locals) (hN : X.N.Nodup) (tk : L2N.Takes X Wout) {hds : List ExceptHandler} {l : List Clause} (hh : Hds X hds l) :
    ∀ s, Caught X pins σ H a cls d B sI s → wHds X.K Wout D l cls d σ H → wpAny (model X.prog X.w) X.A (handleBy (.ref a) X.env hds) (SP X pins D) X.xe s := by
  have look : ∀ {s : Shared} {x : Str} {c : Value} {p : Pos} {R : Value → Shared → Prop} {E1 : Value → Shared → Prop}, Caught X pins σ H a cls d B sI s → Names X x c → R c s →
      wpAny (model X.prog X.w) (X.A.mark (some (.ref a))) (eval (.Name x p) X.env) R E1 s := by
    intro s x c p R E1 z nm q
    obtain ⟨oe, _, _, _, S⟩ := z.suite hf
    obtain ⟨g, nd, h | ⟨h, hv, nn⟩⟩ := nm
    · exact ld_glob (X := X.suite a ((a, oe) :: (X.pn ++ pins))) S g h q nd
    · exact ld_blt (X := X.suite a ((a, oe) :: (X.pn ++ pins))) S g h hv q nn nd
  have asks : ∀ {s : Shared} {c : Value} {b : Bool}, Caught X pins σ H a cls d B sI s → PySem.W.exmOne X.K cls c = some b →
      PySem.W.Looks (model X.prog X.w) s.heap (excMatches (.ref a) c) b := by
    intro s c b z e
    obtain ⟨oe, he, hz, _, _⟩ := z.suite hf
    exact PySem.W.exm_one (M := model X.prog X.w) z.inv.kIn (fun A' Q' E' s' k q => wpAny_typeOf_ref (k _ _ he) (by rw [hz.1]; exact q)) e
  have ok := fun (s : Shared) (z : Caught X pins σ H a cls d B sI s) => z.inv0.ok
  induction hh with
  | nil =>
    intro s z w
    obtain ⟨_, _, _, oe, vs, T, _, _, he, _, hd, h1, _⟩ := id z.fl
    have up : wpAny (model X.prog X.w) X.A (setFlight (.ref a) X.env.frame) (fun _ s4 => wpAny (model X.prog X.w) X.A (throw (.ref a) : Sem Flow) (SP X pins D) X.xe s4) X.xe s := by
      rw [hf]
      refine HandSPX.setFlight_upZ z.fl fun h4 held u4 => wpAny_throw (tk _ _ ?_)
      exact ⟨a, B, sI, pins, σ, H, cls, d, rfl, z.inv0, z.gr, z.up.trans u4, .inr (.inr (by rw [hs]; exact held)), z.na, z.os, z.ag, w⟩
    refine wpAny_handleBy_nil ?_
    unfold PySem.passOn
    refine wpAny_bind (wpAny_field he hd h1 ?_)
    rw [if_neg (by simp)]
    first | exact wpAny_bind up | exact wpAny_bind (wpAny_pure (wpAny_bind up))
  | bare nm su r ih =>
    intro s z w
    obtain ⟨b, e, yes, no⟩ := w
    refine wpAny_handleBy_cons (codeAny_handlers_test (look z nm ((asks z e).here ?_))) (by intro q; cases q)
    rcases b with _ | _
    · exact ih s z (no rfl)
    refine codeAny_handlers_suite (HandSPX.lands_againZ z.fl fun h4 fl4 u4 => ?_)
    obtain ⟨oe, he, hz, hv, S⟩ := (z.again fl4 u4).suite hf
    refine wpAny_mono ((su a oe cls d (X.pn ++ pins) hz hv z.notBase).run [] _ σ H D S (yes rfl a z.na)) ?_ fun _ _ y => y.elim
    rintro (_ | _ | _ | u) s6 q
    · obtain ⟨σ6, H6, S6, q6⟩ := q
      exact ⟨σ6, H6, S6.unsuite (ok s z), q6⟩
    · obtain ⟨σ6, H6, S6, q6⟩ := q
      exact ⟨σ6, H6, S6.unsuite (ok s z), q6⟩
    · obtain ⟨σ6, H6, S6, q6⟩ := q
      exact ⟨σ6, H6, S6.unsuite (ok s z), q6⟩
    · obtain ⟨v6, σ6, H6, S6, r6, q6⟩ := q
      exact ⟨v6, σ6, H6, S6.unsuite (ok s z), r6, q6⟩
  | named nm hi hl su r ih =>
    intro s z w
    obtain ⟨b, e, yes, no⟩ := w
    refine wpAny_handleBy_cons (codeAny_handlers_test (look z nm ((asks z e).here ?_))) (by intro q; cases q)
    rcases b with _ | _
    · exact ih s z (no rfl)
    refine codeAny_handlers_suite_as (HandSPX.lands_againZ z.fl fun h4 fl4 u4 => ?_)
    obtain ⟨oe, he, hz, hv, S⟩ := (z.again fl4 u4).suite hf
    refine store_ok (X := X.suite a ((a, oe) :: (X.pn ++ pins))) (v := .ref a) S hN hi (.inl hl) rfl (fun s5 S5 => ?_) (.inr hl)
    refine wpAny_mono ((su a oe cls d (X.pn ++ pins) hz hv z.notBase).run [] s5 _ H _ S5 (yes rfl a z.na)) ?_ fun _ _ y => y.elim
    have wipes : ∀ {σ6 : L2.St} {H6 : Hp} {s6 : Shared} {R : Shared → Prop} {p' : Pos}, Inv (X.suite a ((a, oe) :: (X.pn ++ pins))) [] σ6 H6 s6 → (∀ s7, Inv X pins (σ6.set _ none) H6 s7 → R s7) →
        wpAny (model X.prog X.w) X.A (do bindName X.env _ .none; unbindBehindTheSuite X.env _ p') (fun _ s7 => R s7) X.xe s6 := fun S6 q => gone_ok (S6.unsuite (ok s z)) hN hi hl q
    rintro (_ | _ | _ | u) s6 q
    · obtain ⟨σ6, H6, S6, q6⟩ := q
      exact wipes S6 fun s7 J => ⟨_, H6, J, q6⟩
    · obtain ⟨σ6, H6, S6, q6⟩ := q
      exact wipes S6 fun s7 J => ⟨_, H6, J, q6⟩
    · obtain ⟨σ6, H6, S6, q6⟩ := q
      exact wipes S6 fun s7 J => ⟨_, H6, J, q6⟩
    · obtain ⟨v6, σ6, H6, S6, r6, q6⟩ := q
      exact wipes S6 fun s7 J => ⟨v6, _, H6, J, r6, q6⟩
end

/-- try: body, then the clauses -/
theorem ps_try_hds {X : Cx} {body : List Stmt} {h₀ : ExceptHandler} {hds : List ExceptHandler} {l : List Clause} {pos : Pos} {tb : WX → TS} {Wout : WX}
    (hs : X.stack = X.env :: X.outer) (hf : X.env.frame = some X.env.locals) (hN : X.N.Nodup) (tk : L2N.Takes X Wout)
    (hb : ∀ (W : WX) (pn : List (Addr × Obj)) (xe : Value → Shared → Prop), L2N.Takes (X.tr pn xe) W → PassesOwn (model X.prog X.w) X.A X.env xe → PSs (X.tr pn xe) body (tb W))
    (hh : Hds X (h₀ :: hds) l) : PS X (.Try body (h₀ :: hds) [] [] pos) (fun D σ H => tb (wHds X.K Wout D l) D σ H) := by
  constructor
  intro pins s σ H D I h
  have ok := I.ok
  let xe : Value → Shared → Prop := fun e s1 => wpAny (model X.prog X.w) X.A (noteFrame e X.env) (fun _ s2 => wpAny (model X.prog X.w) X.A (setFlight e none) (fun _ s3 =>
    wpAny (model X.prog X.w) X.A (handleBy e X.env (h₀ :: hds)) (SP X pins D) X.xe s3) X.xe s2) X.xe s1
  have takes : L2N.Takes (X.tr (X.pn ++ pins) xe) (wHds X.K Wout D l) := by
    rintro u s' ⟨a, B, sI, pins', σ', H', cls, d, rfl, J', gr, up, sky, na, os, ag, w⟩
    have J : Inv X pins σ' H' sI := J'.ofTry ok
    rw [show (X.tr (X.pn ++ pins) xe).stack = X.env :: X.outer from hs] at sky
    refine L2N.Sky.land L2N.Zn.steady (by rw [ok.frames, hs]) hf sky fun h3 fl up3 => ?_
    exact handled_by hs hf hN tk hh _ ⟨J, gr, up.trans up3, os, ag, na, fl⟩ w
  refine wpAny_Try_except (wpAny_mono ((hb _ (X.pn ++ pins) xe takes PassesOwn.looking).run [] s σ H D (I.toTry _) h) ?_ fun _ _ y => y)
  rintro (_ | _ | _ | u) s1 q
  · obtain ⟨σ', H', J, q⟩ := q
    exact wpAny_execs_nil ⟨σ', H', J.ofTry ok, q⟩
  · obtain ⟨σ', H', J, q⟩ := q
    exact ⟨σ', H', J.ofTry ok, q⟩
  · obtain ⟨σ', H', J, q⟩ := q
    exact ⟨σ', H', J.ofTry ok, q⟩
  · obtain ⟨v, σ', H', J, r, q⟩ := q
    exact ⟨v, σ', H', J.ofTry ok, r, q⟩
end NvN
set_option Elab.async false
set_option linter.all false
set_option maxRecDepth 100000
set_option maxHeartbeats 4000000
/-! Within an except suite: a list comprehension over a range. -/
namespace Nv
open PySem PySem.Spec PyProof.Rows L2

/-- a block that bears the pins of its def -/
abbrev blkP (X : Cx) (s : Shared) (H : Hp) (scope : Scope) (ce : Env) (fp : List Addr) : Cx := { X.blk s H scope ce fp with pn := X.pn }
section
variable {X : Cx} {pins : List (Addr × Obj)} {σ : L2.St} {H : Hp} {s s' : Shared} {scope : Scope} {ce : Env} {fp : List Addr} {S0 : Shared} {H0 : Hp}
theorem Inv.bear (J : Inv (X.blk S0 H0 scope ce fp) [] σ H s) (pp : ∀ p ∈ X.pn, s.heap.get? p.1 = some p.2 ∧ H p.1 = none ∧ p.1 ≠ ce.locals ∧ p.1 ∉ frs X.stack ∧ ∀ v, p.2.data ≠ .cell v) : Inv (blkP X S0 H0 scope ce fp) [] σ H s := by
  have o := J.ok
  have o' : (blkP X S0 H0 scope ce fp).Ok := { mod := o.mod, kind := o.kind, glob := o.glob, blt := o.blt, above := o.above, inj := o.inj, has := o.has, cab := o.cab, hd := o.hd, frames := o.frames, stk := o.stk, exf := o.exf, bs := o.bs, bsz := o.bsz, noex := o.noex, exfs := o.exfs, funs := o.funs, frf := o.frf }
  exact { ok := o', os := J.os, bare := J.bare, base := J.base, loc := J.loc, cell := J.cell, free := J.free, freeC := J.freeC, pin := fun p hp => pp p (by simpa using hp), hok := J.hok, len := J.len }
end

theorem pe_lcHot {X : Cx} {elt tg iter : Expr} {scope : Scope} {own : List (Str × Nat)} {pos : Pos} {wi : TI} {g : TG} {te : TE} (hot : L2H.HotC X) (hN : X.N.Nodup) (hi : L2H.PIH X tg iter wi) (bk : BlkOk X.N X.env.scope scope own)
    (hg : ∀ (s : Shared) (H : Hp) (C : Addr) (cl : List (Str × Addr)) (fp : List Addr), PG (blkP X s H scope (compEnvC scope cl C X.env) fp) tg g)
    (he : ∀ (s : Shared) (H : Hp) (C : Addr) (cl : List (Str × Addr)) (fp : List Addr), PE (blkP X s H scope (compEnvC scope cl C X.env) fp) elt te) (hs : ∀ x, foldedSetIterable iter X.env x = pure x := by intro _; rfl) :
    PE X (.ListComp elt [⟨tg, iter, [], 0⟩] scope pos) (tLc wi g tYes te (own.map (·.2))) := by
  constructor
  intro pins s σ H Q I h
  rw [eval_ListComp]
  have caps : ∀ y ∈ scope.names, y.2 = .free → ∃ c, X.env.cells.lookup y.1 = some c := by
    intro y hy e
    rcases bk.free y hy e with z | z
    · exact I.ok.has _ (.inl z)
    · exact I.ok.has _ (.inr z)
  refine wpAny_comprehension_free rfl hs (closure_ok caps) bk.kind (fun y hy e => by rw [bk.uniq y hy, e]) (thn (hi.run pins s σ H _ I h) fun _ s1 hx => thn hx ?_)
  rintro itv s2 ⟨it, fp, tn, J, H2, rfl, I2, T, st2, f2, q⟩
  refine wpAny_newObj_type (newEnv_comp ?_) (by show 0 ≤ sizeLine; decide)
  -- the new list stands at D, the block's names at C
  obtain ⟨D, hD⟩ : ∃ D, D = s2.heap.objs.size := ⟨_, rfl⟩
  rw [← hD]
  have nD : H2 D = none := I2.hok.fresh (Nat.le_of_eq hD.symm)
  obtain ⟨W, ⟨m0, w0⟩, turn⟩ := q D nD
  obtain ⟨s3, hs3⟩ : ∃ s3 : Shared, s3 = { s2 with heap := s2.heap.push { cls := .type "list", data := .seq ([] : List Value).toArray } } := ⟨_, rfl⟩
  rw [← hs3]
  have k23 : ∀ b o, s2.heap.get? b = some o → s3.heap.get? b = some o := fun b o e => by rw [hs3]; exact Heap.get?_push_of_some _ e
  have I3 : Inv X pins σ (upd H2 D (.lst [])) s3 := by
    rw [hs3]
    refine I2.laid (t' := s2.toks) (fun b o e => Heap.get?_push_of_some _ e) (Nat.le_of_eq hD.symm) ⟨Nat.zero_le _, [], 0, .nil, ?_⟩
    rw [hD]
    exact Heap.get?_push_size _ rfl
  have old : ∀ b ∈ fp, b < s2.heap.objs.size := fun b hb => let ⟨_, e, _⟩ := T.obj _ _ st2 b hb; Heap.lt_size e
  have f3 : ∀ b ∈ fp, FpOk X pins (upd H2 D (.lst [])) b ∧ b < s3.heap.objs.size := by
    intro b hb
    obtain ⟨g0, g1⟩ := f2 b hb
    refine ⟨⟨?_, g1⟩, ?_⟩
    · rw [upd_ne (by rw [hD]; exact Nat.ne_of_lt (old b hb))]
      exact g0
    · rw [hs3]
      show b < (s2.heap.push _).objs.size
      rw [Heap.size_push]
      exact Nat.lt_succ_of_lt (old b hb)
  have st3 : tn 0 s3.heap := T.keep _ _ _ st2 fun b _ o e => k23 b o e
  obtain ⟨H3, hH3⟩ : ∃ H3 : Hp, H3 = upd H2 D (.lst []) := ⟨_, rfl⟩
  rw [← hH3] at I3 f3 w0
  have I4 := block_start I3 bk hN f3
  have pg := hg s3 H3 s3.heap.objs.size (cellsFrom (s3.heap.objs.size + 1) scope.names (cloFrom X.env.cells scope.names [])) fp
  have pe := he s3 H3 s3.heap.objs.size (cellsFrom (s3.heap.objs.size + 1) scope.names (cloFrom X.env.cells scope.names [])) fp
  show codeAny _ _ (.compStart (.ListComp elt [⟨tg, iter, [], 0⟩] scope pos) 0 (.ref it) (.ref D) (compEnvC scope (cellsFrom (s3.heap.objs.size + 1) scope.names (cloFrom X.env.cells scope.names [])) s3.heap.objs.size X.env))
    (compPost (model X.prog X.w) X.A X.xe none (EP X pins σ Q) (.ref D) s3.heap.objs.size) { s3 with heap := pushCells (s3.heap.push { cls := .type "dict", data := .dict #[] }) scope.names }
  obtain ⟨ce, hce⟩ : ∃ ce, ce = compEnvC scope (cellsFrom (s3.heap.objs.size + 1) scope.names (cloFrom X.env.cells scope.names [])) s3.heap.objs.size X.env := ⟨_, rfl⟩
  rw [← hce] at I4 pg pe ⊢
  have cL : ce.locals = s3.heap.objs.size := by rw [hce]; rfl
  obtain ⟨s4, hs4⟩ : ∃ s4 : Shared, s4 = { s3 with heap := pushCells (s3.heap.push { cls := .type "dict", data := .dict #[] }) scope.names } := ⟨_, rfl⟩
  rw [← hs4] at I4 ⊢
  have k34 : ∀ b o, s3.heap.get? b = some o → s4.heap.get? b = some o := fun b o e => by rw [hs4]; exact pushCells_keeps _ _ _ _ (Heap.get?_push_of_some _ e)
  have I5 : Inv (blkP X s3 H3 scope ce fp) [] (wipe σ (own.map (·.2))) H3 s4 := by
    refine Inv.bear I4 fun p hp => ?_
    obtain ⟨e1, e2, e3, e4, e5⟩ := I3.pin p (List.mem_append_left _ hp)
    refine ⟨k34 _ _ e1, e2, ?_, fun hm => ?_, e5⟩
    · rw [cL]
      exact Nat.ne_of_lt (Heap.lt_size e1)
    · rcases List.mem_cons.mp (I3.stkSub _ hm) with z | z
      · exact e3 z
      · exact e4 z
  have hotB : L2H.HotC (blkP X s3 H3 scope ce fp) := hot
  have st4 : tn 0 s4.heap := T.keep _ _ _ st3 fun b _ o e => k34 b o e
  have steady : ∀ {σ' : L2.St} {H' : Hp} {s' : Shared}, Inv (blkP X s3 H3 scope ce fp) [] σ' H' s' → (∀ b ∈ fp, H' b = none) → ∀ b ∈ fp, FpOk (blkP X s3 H3 scope ce fp) [] H' b := by
    intro σ' H' s' Z hn b hb
    refine ⟨hn b hb, (Z.ok.exf b hb).1, Z.ok.exfs b hb, .inl hb, fun x c e => (Z.ok.exf b hb).2 x c e, fun p hp => ?_⟩
    obtain ⟨_, _, _, _, _, last⟩ := (f3 b hb).1
    exact last p (List.mem_append_left _ (by simpa using hp))
  have loop : codeAny (model X.prog X.w) X.A (.compLoop (.ListComp elt [⟨tg, iter, [], 0⟩] scope pos) 0 (.ref it) (.ref D) ce) (compPost (model X.prog X.w) X.A X.xe none (EP X pins σ Q) (.ref D) s3.heap.objs.size) s4 := by
    refine compLoop_any (fun n z => ∃ i H', Inv (blkP X s3 H3 scope ce fp) [] (wipe σ (own.map (·.2))) H' z ∧ tn i z.heap ∧ (∀ b ∈ fp, H' b = none) ∧ W i n H') ?_ m0 ⟨0, H3, I5, st4, fun b hb => (f3 b hb).1.1, w0⟩
    rintro n s5 ⟨i, H5, J5, st5, n5, w5⟩
    rcases turn i n H5 w5 with ⟨stop, ends⟩ | ⟨go, Nx, hNx, step⟩
    · refine thnF (T.done (blkP X s3 H3 scope ce fp) rfl rfl rfl hotB i [] s5 _ H5 (fun _ _ => False) J5 (steady J5 n5) st5 stop) ?_
      rintro r s6 ⟨rfl, J6⟩
      have J7 : Inv X pins σ H5 s6 := I3.call' (ch := fp) J6.os J6.base J6.hok J6.bare fun b hb => by
        obtain ⟨_, z1, _, z3, z4, z5⟩ := (f3 b hb).1
        exact ⟨z3, z1, z4, z5⟩
      have fC : H5 s3.heap.objs.size = none := by
        have z : H5 ce.locals = none := J6.free
        rwa [cL] at z
      obtain ⟨m, hn, _⟩ := J6.loc
      have hn' : s6.heap.Ns ce.locals m := hn
      rw [cL] at hn'
      obtain ⟨y0, y1, y2, y3, y4, y5⟩ := I3.fpOk (H' := H5) (Nat.le_refl _) fC
      exact ⟨m, hn', fun h'' sb => ⟨.ref D, H5, J7.turned (t' := s6.toks) (fun b o hb e => (sb.2 b hb).trans e) y0 y1 y3 y4 y5, rfl, ends⟩⟩
    · refine thnF (T.item (blkP X s3 H3 scope ce fp) rfl rfl rfl hotB i [] s5 _ H5 (fun _ _ => False) J5 (steady J5 n5) st5 go) ?_
      rintro r s6 ⟨u, rfl, h6⟩
      refine thnF h6 ?_
      rintro _ s7 ⟨x, H7, J7, r7, y7, st7, n7⟩
      have P7 := J7.pinned (steady J7 n7) (T.obj _ _ st7)
      refine thnF (pg.run _ s7 _ H7 x u _ P7 r7 (step x H7 y7)) ?_
      rintro _ s8 ⟨σ8, H8, J8, same8, q8⟩
      refine thnF (wpAny_tests_nil (Q := fun (b : Bool) z => b = true ∧ z = s8) ⟨rfl, rfl⟩) ?_
      rintro b s9 ⟨rfl, rfl⟩
      have q9 : te σ8 H8 _ := q8
      rw [if_pos rfl]
      refine thnF (pe.run _ _ σ8 H8 _ J8 q9) ?_
      rintro z s10 ⟨yv, H10, J10, r10, acc, hD10, hz10, nx⟩
      refine app_ok (X := blkP X s3 H3 scope ce fp) J10 hD10 hz10 r10 fun s11 J11 => ?_
      obtain ⟨m', hm, w'⟩ := hNx _ nx
      have pinB : ∀ b ∈ fp, ∀ o, s7.heap.get? b = some o → s11.heap.get? b = some o ∧ (upd H10 D (.lst (acc ++ [yv]))) b = none := fun b hb o e =>
        let z := J11.pin (b, o) (List.mem_append_right _ (List.mem_append_right _ (mem_pinsAt hb e)))
        ⟨z.1, z.2.1⟩
      refine ⟨m', hm, i + 1, _, (J11.unpinned (pins := [])).weak (by rw [← same8, wipe_length]) (fun j v e => ?_), T.keep _ _ _ st7 fun b hb o e => (pinB b hb o e).1, fun b hb => ?_, w'⟩
      · rw [← same8] at e
        exact (wipe_some e).1
      · obtain ⟨o, e, _⟩ := T.obj _ _ st7 b hb
        exact (pinB b hb o e).2
  exact codeAny_compStart_list loop (T.self X.A 0 _ _ _ st4 loop)
end Nv
set_option Elab.async false
set_option linter.all false
set_option maxRecDepth 100000
set_option maxHeartbeats 4000000
/-! A def that may be called anywhere, within an except suite too; there its argument may be the exception that is handled. -/
namespace Nv
open PySem PySem.Spec PyProof.Rows L2

/-- the context of such a def's body -/
abbrev cxA (P : Program) (w : World) (K : PySem.W.Frag) (mg : Str → Option Value) (base : Heap) (N : List Str) (qual : Str) (scope : Scope) (f : Addr) (cd : Value) (A : Around) (outer : List Env) (s : Shared) (H : Hp) : Cx :=
  { cxOf CX0 P w K mg base N qual scope f cd A outer s H E0 with calm := false, xe := fun _ _ => False }
structure FnA (P : Program) (w : World) (K : PySem.W.Frag) (mg : Str → Option Value) (base : Heap) (k : Nat) (f : Addr) (fd : FuncData) (ps : List Str) (sp : Sp) : Prop where
  many : ∀ vs H Q E, sp vs H Q E → vs.length = ps.length
  does : ∀ (A : Around) (outer : List Env) (s : Shared) (H : Hp) (ar : Args) (us : List Value) (vs : List V) (Q : VK),
    L2H.RoomH k A → Env0 P w K mg base A outer s H → BindsTo s fd ar (ps.zip us) → Vals vs us → sp vs H Q E0 →
    codeAny (model P w) A (.call (.ref f) ar) (CR CX0 outer P w H s Q E0) s

section
variable {P : Program} {w : World} {K : PySem.W.Frag} {mg : Str → Option Value} {base : Heap}
theorem FnA.made {x qual : Str} {st : Stmt} {f : Addr} {fd : FuncData} {N ps : List Str} {k : Nat} {sp : Sp} (F : Fun K x qual st f fd) (S : FnScope N ps (defScope st))
    (many : ∀ vs H Q E, sp vs H Q E → vs.length = ps.length)
    (body : ∀ (cdv : Value) (A : Around) (outer : List Env) (s : Shared) (H : Hp) (vs : List V) (Q : VK),
      L2H.RoomH k (A.deeper (envOfC qual (defScope st) s.heap.objs.size f cdv)) → sp vs H Q E0 →
      ∃ t, PSs (cxA P w K mg base N qual (defScope st) f cdv A outer s H) (defBody st) t ∧ t { nx := fun _ H' => Q .non H', rt := Q } (start N vs) H) :
    FnA P w K mg base (k + 1) f fd ps sp := by
  obtain ⟨oc, od, kV, doc, pm, an, cdv, ct, osl, rfl, lk, hcd⟩ := F.ex
  constructor
  · exact many
  intro A outer s H ar us vs Q room env hb rel want
  obtain ⟨t, der, hq⟩ := body cdv A outer s H vs Q (room.deeper _) want
  have inK : K.In s.heap := env.mod.kin.keeps fun b o z => (env.bs b o z).1
  have nolim : s.heap.NoLimit := env.mod.nolimit.keeps fun b o z => (env.bs b o z).1
  refine Att.call_fn inK nolim lk hcd room.depth hb (all_kinds S us) (fun s1 ic => ?_) S.co S.gen S.kind
  -- the state at the entry, read with nothing handled; then as it is
  have env' : Env0 P w K mg base { A with handled := none } outer s H := { frames := env.frames, mod := env.mod, bs := env.bs, bsz := env.bsz, funs := env.funs, frf := env.frf, hok := env.hok, bare := env.bare }
  have J := inv_start (CX := CX0) (E := E0) (N := N) S rfl env' (many _ _ _ _ want) rel ic
  have o := J.ok
  have o' : (cxA P w K mg base N qual (defScope st) f cdv A outer s H).Ok := { mod := o.mod, kind := o.kind, glob := o.glob, blt := o.blt, above := o.above, inj := o.inj, has := o.has, cab := o.cab, hd := fun z => Bool.noConfusion (show false = true from z), frames := o.frames, stk := o.stk, exf := o.exf, bs := o.bs, bsz := o.bsz, noex := o.noex, exfs := o.exfs, funs := o.funs, frf := o.frf }
  have J' : Inv (cxA P w K mg base N qual (defScope st) f cdv A outer s H) [] (start N vs) H s1 := { ok := o', os := J.os, bare := J.bare, base := J.base, loc := J.loc, cell := J.cell, free := J.free, freeC := J.freeC, pin := J.pin, hok := J.hok, len := J.len }
  refine wpAny_mono (der.run [] s1 _ H _ J' hq) ?_ fun _ _ z => z.elim
  rintro (_ | _ | _ | u) s' z
  · obtain ⟨σ', H', Z, q⟩ := z
    exact ⟨.non, H', Z.os, Z.bare, Z.base, Z.hok, rfl, q⟩
  · obtain ⟨_, _, _, q⟩ := z
    exact q.elim
  · obtain ⟨_, _, _, q⟩ := z
    exact q.elim
  · obtain ⟨v, σ', H', Z, r, q⟩ := z
    exact ⟨v, H', Z.os, Z.bare, Z.base, Z.hok, r, q⟩
end

section
variable {X : Cx} {k : Nat} {f : Addr} {fd : FuncData} {y : Str} {sp : Sp} {x : Str} {p pos : Pos} {e : Expr} {te : TE}
def oneA (R : V → Hp → Prop) : List V → Hp → Prop
  | [v], H => R v H
  | _, _ => False
theorem oneA_of {R : V → Hp → Prop} {vs : List V} {H : Hp} (h : oneA R vs H) : ∃ v, vs = [v] ∧ R v H := by
  rcases vs with _ | ⟨v, _ | ⟨_, _⟩⟩
  · exact h.elim
  · exact ⟨v, rfl, h⟩
  · exact h.elim
/-- x(e) -/
theorem pe_callA (F : FnA X.prog X.w X.K X.mg X.base k f fd [y] sp) (hr : L2H.RoomH k X.A) (hg : Gl X x) (hm : X.mg x = some (.ref f)) (hk : PySem.W.keepIn X.K (.ref f) = true) (hb : Binds X.K fd [y] []) (he : PE X e te)
    (hs : starEach (e :: []) X.env = (false, eval e X.env) :: starEach [] X.env := by rfl) (hpl : (backTo pos (starEach [] X.env)).any (·.1) = false := by rfl) (hdb : (x == ("__debug__" : Str)) = false := by decide) :
    PE X (.Call (.Name x p) [e] [] pos) (fun σ H Q => te σ H fun v H1 => sp [v] H1 Q E0) := by
  constructor
  intro pins s σ H Q I h
  refine wpAny_Call_Name_kw (ld_glob I hg hm (PySem.W.callWith_K (h₀ := X.base) I.ok.mod.kin hk (thn ((pa_cons he pa_nil hs).run pos pins s σ H (oneA fun v H1 => sp [v] H1 Q E0) I h) ?_) hs hpl) hdb)
  rintro us s1 ⟨vs, H1, I1, r, q0⟩
  obtain ⟨v, rfl, q⟩ := oneA_of q0
  have b := hb s1 us I1.kIn (by rw [List.append_nil, ← r.length]; rfl)
  rw [List.append_nil] at b
  refine ⟨I1.kIn, wpAny_call (codeAny_mono (F.does X.A X.stack s1 H1 ⟨us, []⟩ us [v] Q hr I1.env0 b r q) ?_)⟩
  rintro (z | (_ | _ | _ | u)) s2 hz
  · exact hz.elim
  · exact hz.elim
  · exact hz.elim
  · exact hz.elim
  · exact I1.after hz
/-- the very object at a -/
def pinO (a : Addr) (oe : Obj) : HO := .ext fun h => h.get? a = some oe
theorem pinO_ne {a : Addr} {oe : Obj} : (∀ xs, pinO a oe ≠ .tup xs) ∧ (∀ o u, pinO a oe ≠ .frz o u) ∧ (∀ ps, pinO a oe ≠ .tbl ps) ∧ ∀ y, pinO a oe ≠ .own y := by
  refine ⟨fun xs z => ?_, fun o u z => ?_, fun ps z => ?_, fun y z => ?_⟩
  · exact nomatch (show HO.ext _ = HO.tup xs from z)
  · exact nomatch (show HO.ext _ = HO.frz o u from z)
  · exact nomatch (show HO.ext _ = HO.tbl ps from z)
  · exact nomatch (show HO.ext _ = HO.own y from z)
/-- x(n), n the exception that is handled -/
theorem pe_callHot {a : Addr} {oe : Obj} {pn : List (Addr × Obj)} (nb : X.base.get? a = none) (F : FnA X.prog X.w X.K X.mg X.base k f fd [y] sp) (hr : L2H.RoomH k (X.A.mark (some (.ref a)))) (hg : Gl X x) (hm : X.mg x = some (.ref f)) (hk : PySem.W.keepIn X.K (.ref f) = true)
    (hb : Binds X.K fd [y] []) (he : PE (X.suite a ((a, oe) :: pn)) e te)
    (hs : starEach (e :: []) X.env = (false, eval e X.env) :: starEach [] X.env := by rfl) (hpl : (backTo pos (starEach [] X.env)).any (·.1) = false := by rfl) (hdb : (x == ("__debug__" : Str)) = false := by decide) :
    PE (X.suite a ((a, oe) :: pn)) (.Call (.Name x p) [e] [] pos) (fun σ H Q => te σ H fun v H1 => v = .ref a ∧ (H1 a = none → sp [.ref a] (upd H1 a (pinO a oe)) (fun r H2 => H2 a = some (pinO a oe) ∧ Q r (del H2 a)) E0)) := by
  constructor
  intro pins s σ H Q I h
  refine wpAny_Call_Name_kw (ld_glob I hg hm (PySem.W.callWith_K (h₀ := X.base) I.ok.mod.kin hk (thn ((pa_cons he pa_nil hs).run pos pins s σ H (oneA fun v H1 => v = .ref a ∧ (H1 a = none → sp [.ref a] (upd H1 a (pinO a oe)) (fun r H2 => H2 a = some (pinO a oe) ∧ Q r (del H2 a)) E0)) I h) ?_) hs hpl) hdb)
  rintro us s1 ⟨vs, H1, I1, r, q0⟩
  obtain ⟨v, rfl, rfl, q⟩ := oneA_of q0
  obtain ⟨ha, na, nL, nF, nc⟩ := I1.pin (a, oe) (List.mem_append_left _ List.mem_cons_self)
  have q := q na
  have b := hb s1 us I1.kIn (by rw [List.append_nil, ← r.length]; rfl)
  rw [List.append_nil] at b
  obtain ⟨n1, n2, n3, n4⟩ := @pinO_ne a oe
  have apart : ∀ {c : Addr} {o : HO}, H1 c = some o → c ≠ a := fun z e => by
    rw [e, na] at z
    cases z
  have up : ∀ {c : Addr} {o : HO}, H1 c = some o → upd H1 a (pinO a oe) c = some o := fun z => by rw [upd_ne (apart z)]; exact z
  have fr : a ∉ frs X.stack := fun hm => (List.mem_cons.mp (I1.stkSub a hm)).elim nL nF
  have ok2 : HOk X.prog X.w (upd H1 a (pinO a oe)) s1.heap := by
    intro c u z
    by_cases hc : c = a
    · subst hc
      rw [upd_same] at z
      cases z
      exact ⟨ha, ⟨oe, ha⟩, fun _ _ y k => k _ y⟩
    · rw [upd_ne hc] at z
      exact (I1.hok c u z).stay (fun _ _ _ y => y) (fun _ y => up y) fun _ _ y => up y
  have e0 := I1.env0
  have env : Env0 X.prog X.w X.K X.mg X.base (X.A.mark (some (.ref a))) X.stack s1 (upd H1 a (pinO a oe)) := {
    frames := e0.frames, mod := e0.mod, bsz := e0.bsz, funs := e0.funs, hok := ok2, bare := e0.bare
    bs := fun c o z => ⟨(e0.bs c o z).1, by
      have ne : c ≠ a := fun y => by rw [y, nb] at z; cases z
      rw [upd_ne ne]
      exact (e0.bs c o z).2⟩
    frf := fun c hc => by
      have ne : c ≠ a := fun e => fr (by rw [← e]; exact hc)
      rw [upd_ne ne]
      exact e0.frf c hc }
  refine ⟨I1.kIn, wpAny_call (codeAny_mono (F.does (X.A.mark (some (.ref a))) X.stack s1 _ ⟨us, []⟩ us [.ref a] _ hr env b r q) ?_)⟩
  rintro (z | (_ | _ | _ | u)) s2 hz
  · exact hz.elim
  · exact hz.elim
  · exact hz.elim
  · exact hz.elim
  obtain ⟨v, H2, os, bare, un, hok, rv, hp, q2⟩ := hz
  have ha2 : s2.heap.get? a = some oe := (hok a _ hp).1
  have dl : ∀ {c : Addr} {o : HO}, c ≠ a → H2 c = some o → del H2 a c = some o := fun n z => by rw [del_ne n]; exact z
  have U : Un (frs X.stack) [] H1 (del H2 a) s1.heap s2.heap := {
    keep := fun c o z n nf nx => by
      by_cases hc : c = a
      · subst hc
        rw [ha] at z
        cases z
        exact ha2
      · exact un.keep c o z (by rw [upd_ne hc]; exact n) nf nx
    slot := fun c o z n hf nx => by
      have hc : c ≠ a := fun e => fr (e ▸ hf)
      exact un.slot c o z (by rw [upd_ne hc]; exact n) hf nx
    free := fun c o z n nx => by
      by_cases hc : c = a
      · rw [hc]
        exact del_same
      · rw [del_ne hc]
        exact un.free c o z (by rw [upd_ne hc]; exact n) nx
    there := un.there
    tups := fun c xs z => dl (apart z) (un.tups c xs (up z))
    frzs := fun c o u z => dl (apart z) (un.frzs c o u (up z))
    tbls := fun c ps z => let ⟨m, e⟩ := un.tbls c ps (up z); ⟨m, dl (apart z) e⟩ }
  have ok3 : HOk X.prog X.w (del H2 a) s2.heap := by
    intro c u z
    have hc : c ≠ a := fun e => by
      rw [e, del_same] at z
      cases z
    rw [del_ne hc] at z
    have other : ∀ {d : Addr} {o : HO}, H2 d = some o → pinO a oe ≠ o → d ≠ a := fun {d o} z1 n e => by
      rw [e, hp] at z1
      exact n (Option.some.inj z1)
    exact (hok c u z).stay (fun _ _ _ y => y) (fun d y => dl (other y (n4 c)) y) fun d xs y => dl (other y (n1 xs)) y
  exact ⟨v, del H2 a, I1.call' (ch := []) os U ok3 bare (fun _ z => nomatch z), rv, q2⟩
end
end Nv
set_option Elab.async false
set_option linter.all false
set_option maxRecDepth 100000
set_option maxHeartbeats 4000000
/-! What the written part says of an own exception class, as one look. -/
namespace Nv
open PySem PySem.Spec PyProof.Rows L2

def shapeB (K : PySem.W.Frag) (C : Addr) : Bool := match K.lookup C with
  | some ⟨.type "type", _, .cls cd, sl⟩ => (match cd.mro, sl.toList with
    | .ref D :: bm, [_, _, _, _, some (.builtin n), _] => D == C && (n == "ValueError.__new__" && (!cd.hasDel && (PySem.HandSPX.refsVE bm && cd.hasDict)))
    | _, _ => false)
  | _ => false
theorem shape_of {K : PySem.W.Frag} {C : Addr} (z : shapeB K C = true) :
    ∃ nm q N bs bm sn sub ab col dd k0 k1 k2 k3 k5, K.lookup C = some (excClassObj nm q C N bs bm true sn sub ab col dd k0 k1 k2 k3 k5 "ValueError.__new__") ∧ PySem.HandSPX.refsVE bm = true := by
  unfold shapeB at z
  split at z
  · rename_i dd cd sl ho
    split at z
    · rename_i D bm k0 k1 k2 k3 n k5 hm hs
      rw [Bool.and_eq_true, Bool.and_eq_true, Bool.and_eq_true, Bool.and_eq_true, beq_iff_eq, beq_iff_eq, Bool.not_eq_true'] at z
      obtain ⟨rfl, rfl, hdel, hb, hh⟩ := z
      obtain ⟨nm, bs, mro, ns, qn, hd, sn, sub, ab, col, del⟩ := cd
      dsimp only at hm hdel hh
      subst hm hdel hh
      obtain ⟨sl⟩ := sl
      simp only at hs
      subst hs
      exact ⟨nm, qn, ns, bs, bm, sn, sub, ab, col, dd, k0, k1, k2, k3, k5, ho, hb⟩
    · cases z
  · cases z
def nameB (r : Option PySem.W.CFound) (C : Addr) : Bool := match r with
  | some (.get g a o t) => g == .builtin "getset_descriptor.__get__" && (a == .builtin "type.__name__" && (o == .ref C && t == .type "type"))
  | _ => false
theorem nameB_of {r : Option PySem.W.CFound} {C : Addr} (z : nameB r C = true) : r = some (.get (.builtin "getset_descriptor.__get__") (.builtin "type.__name__") (.ref C) (.type "type")) := by
  unfold nameB at z
  split at z
  · simp only [Bool.and_eq_true, beq_iff_eq] at z
    obtain ⟨rfl, rfl, rfl, rfl⟩ := z
    rfl
  · cases z
/-- all that is asked of the class at C, its __init__ at fI -/
def classB (K : PySem.W.Frag) (C fI : Addr) : Bool :=
  shapeB K C && (PySem.W.findIn K (.ref C) "__setattr__" == some (some (.builtin "object.__setattr__")) && (PySem.W.subIn K (.ref C) (.type "BaseException") == some true && (PySem.W.typeIn K (.ref C) == some (.type "type") &&
  (PySem.W.keepIn K (.ref C) && (PySem.W.findIn K (.ref C) "__init__" == some (some (.ref fI)) && (PySem.W.findIn K (.ref C) "value" == some none && ((PySem.W.clsIn K C).isSome &&
  (PySem.W.findIn K (.ref C) "__getattribute__" == some (some (.builtin "BaseException.__getattribute__")) && (PySem.W.findIn K (.ref C) "__getattr__" == some none && (PySem.W.findIn K (.ref C) "__class__" == some (some (.builtin "object.__class__")) &&
  (PySem.W.mroIn K C (.type "object") == some true && (PySem.W.hasDictIn K C && (PySem.W.findIn K (.ref C) "name" == some none && (PySem.W.readsIn K C (.type "type") &&
  ((PySem.W.nameIn K C).isSome && nameB (PySem.W.findCls K (.ref C) (.type "type") "__name__") C)))))))))))))))
def metaB (K : PySem.W.Frag) (fI : Addr) : Bool := PySem.W.typeIn K (.ref fI) == some (.type "function") && (PySem.W.specialIn K (.builtin "object.__class__") "__get__" == some (some (.builtin "getset_descriptor.__get__")) && PySem.W.takesIn K (.builtin "object.__class__") == some true)
structure Xc (K : PySem.W.Frag) (C fI : Addr) : Prop where
  mx : MkX K C fI
  cl : XCls K C
  fl : XfC K C
theorem class_of {K : PySem.W.Frag} {C fI : Addr} (z : classB K C fI = true) (m : metaB K fI = true) : Xc K C fI := by
  unfold classB at z
  unfold metaB at m
  simp only [Bool.and_eq_true, beq_iff_eq] at z m
  obtain ⟨z1, z2, z3, z4, z5, z6, z7, z8, z9, z10, z11, z12, z13, z14, z15, z16, z17⟩ := z
  obtain ⟨m1, m2, m3⟩ := m
  exact ⟨⟨⟨shape_of z1, z2, z3, z4, z5⟩, z6, m1, z7, z14, ⟨z9, z10, z3, z8, z11, m2, m3, z12, z15, z4, nameB_of z17, Option.isSome_iff_exists.mp z16⟩⟩, ⟨z8, z9, z10, z3, z11, m2, m3, z12⟩, ⟨z9, z10, z3, z13⟩⟩
/-- the address of a class of the module -/
def addrIn (K : PySem.W.Frag) (n : Str) : Addr := match PySem.W.nsIn K mainGlobals n with
  | some (some (.ref a)) => a
  | _ => 0
def namedB (K : PySem.W.Frag) (n : Str) : Bool := PySem.W.nsIn K mainGlobals n == some (some (.ref (addrIn K n)))
theorem named_of {K : PySem.W.Frag} {h : Heap} {mg : Str → Option Value} {n : Str} (X : K.In h) (G : h.Ns mainGlobals mg) (z : namedB K n = true) : mg n = some (.ref (addrIn K n)) := PySem.W.mg_of X G (beq_iff_eq.mp z)
end Nv
set_option Elab.async false
set_option linter.all false
set_option maxRecDepth 100000
set_option maxHeartbeats 4000000
/-! raise C(e) where nothing is handled; readings that hang on what a suite holds. -/
namespace Nv
open PySem PySem.Spec PyProof.Rows L2

theorem PSs.all {X : Cx} {ι : Type} {p : ι → Prop} {t : ι → TS} {st : List Stmt} (i : ι) (hi : p i) (h : PSs X st (t i)) : PSs X st (fun D σ H => ∀ i, p i → t i D σ H) :=
  ⟨fun pins s σ H D I q => h.run pins s σ H D I (q i hi)⟩
theorem takesN0 {X : Cx} : L2N.Takes X (fun _ _ _ _ => False) := fun _ _ ⟨_, _, _, _, _, _, _, _, _, _, _, _, _, _, _, _, w⟩ => w.elim

section
variable {X : Cx} {C fI : Addr} {k : Nat} {fd : FuncData} {x : Str} {p pos : Pos} {e : Expr} {te : TE}
def xdQ (C : Addr) (Q : XK) (v : V) (H1 : Hp) : Prop := ∀ dx n, H1 dx = none → Q (.ref C) (some dx) (upd H1 dx (.xd (xf n v)))
theorem pmk_mkx (T : MkX X.K C fI) (F1 : FnOk X.prog X.w X.K X.mg X.base CX0 k fI fd ["self", "value"] (spIni X.K)) (hr : Room (k + 1) X.A) (hb : Binds X.K fd ["self", "value"] []) (hg : Gl X x) (hm : X.mg x = some (.ref C)) (he : PE X e te)
    (hs : starEach (e :: []) X.env = (false, eval e X.env) :: starEach [] X.env := by rfl) (hpl : (backTo pos (starEach [] X.env)).any (·.1) = false := by rfl) (hdb : (x == ("__debug__" : Str)) = false := by decide) :
    L2N.PMk X (.Call (.Name x p) [e] [] pos) (fun σ H Q => te σ H fun v H1 => xdQ C Q v H1) := by
  intro pins s σ H Q I h
  obtain ⟨nm, q, N, bs, bm, sn, sub, ab, col, dd, k0, k1, k2, k3, k5, hC, hbm⟩ := T.ox.cls
  refine wpAny_Call_Name_kw (ld_glob I hg hm (PySem.W.callWith_K (h₀ := X.base) I.ok.mod.kin T.ox.kC (thn ((pa_cons he pa_nil hs).run pos pins s σ H (oneA fun v H1 => xdQ C Q v H1) I h) ?_) hs hpl) hdb)
  rintro us ⟨hp, g, dr, tk, os⟩ ⟨vs, H1, I1, r1, q1⟩
  obtain ⟨v, rfl, q2⟩ := oneA_of q1
  refine ⟨I1.kIn, ?_⟩
  cases r1 with
  | cons rv rr =>
    cases rr
    rename_i u
    obtain ⟨a, ha⟩ : ∃ a, a = hp.objs.size + 1 := ⟨_, rfl⟩
    have h2 : ((hp.push (PySem.W.kdv_tup [u])).push (PySem.HandSPX.excO C hp.objs.size)).get? a = some (PySem.HandSPX.excO C hp.objs.size) := by rw [ha]; heap_get
    have new : hp.objs.size ≤ a := by rw [ha]; exact Nat.le_succ _
    have kk : ∀ b o, hp.get? b = some o → ((hp.push (PySem.W.kdv_tup [u])).push (PySem.HandSPX.excO C hp.objs.size)).get? b = some o := fun _ _ z => Heap.get?_push_of_some _ (Heap.get?_push_of_some _ z)
    have J := I1.laid (t' := tk) (a := a) (o := exo a C none) (h' := (hp.push (PySem.W.kdv_tup [u])).push (PySem.HandSPX.excO C hp.objs.size)) kk new (exo_ok h2)
    have nH : H1 a = none := I1.hok.fresh new
    have want : spIni X.K [.ref a, v] (upd H1 a (exo a C none)) (fun z H2 => z = .non ∧ ∃ dx n, H1 dx = none ∧ dx ≠ a ∧ H2 = upd (upd (upd H1 a (exo a C none)) dx (exd dx (xf n v))) a (exo a C (some dx))) E0 := by
      refine ⟨_, C, v, rfl, T.ox, T.nov, T.nof, T.nmc, upd_same, fun dx n nd ne => ⟨rfl, dx, n, ?_, ne, rfl⟩⟩
      rw [upd_ne ne] at nd
      exact nd
    refine wpAny_call (PySem.HandSPX.call_own F.excBase_ValueError (fun Y => PySem.HandSPX.refsVE_contains Y bm hbm) (I1.kIn _ _ hC) (PySem.W.looks_findIn I1.kIn T.ini) (fun self => PySem.W.bind_fn I1.kIn self T.tyI) (by show 1 ≤ sizeLine; decide) ?_)
    rw [← ha]
    refine codeAny_mono (F1.run _ X.stack _ _ ⟨[.ref a, u], []⟩ [.ref a, u] [.ref a, v] _ E0 (hr.make C [u] []) (J.env0.make C [u] []) (hb _ [.ref a, u] J.kIn rfl) (.cons rfl (.cons rv .nil)) want) ?_
    rintro (z | (_ | _ | _ | r)) s' hz
    · exact hz.elim
    · exact hz.elim
    · exact hz.elim
    · exact hz.elim
    · obtain ⟨v', H2, os2, bare2, un2, hok2, rv', ev, dx, n, nd, ne, eH⟩ := hz
      subst ev
      obtain ⟨hh, g2, d2, t2, os'⟩ := s'
      have ea : H2 a = some (exo a C (some dx)) := by rw [eH]; exact upd_same
      have ed : H2 dx = some (exd dx (xf n v)) := by rw [eH, upd_ne ne]; exact upd_same
      obtain ⟨t0, G, J3, kG, ge, hoe, na⟩ := mk_end0 (d2 := d2) (t2 := t2) I1 new kk un2 hok2 os2 bare2 ea ed nd
      have eq : upd (del H2 a) dx (.xd (xf n v)) = upd H1 dx (.xd (xf n v)) := by
        funext b
        by_cases e1 : b = dx
        · rw [e1, upd_same, upd_same]
        · rw [upd_ne e1, upd_ne e1]
          by_cases e2 : b = a
          · rw [e2, del_same, nH]
          · rw [del_ne e2, eH, upd_ne e2, upd_ne e1, upd_ne e2]
      rw [eq] at J3 na
      exact ⟨rv', a, _, _, ⟨G, g2, d2, t2, os'⟩, _, .ref C, some dx, rfl, J3, kG, ge, hoe, ⟨rfl, rfl, fun vs e => by cases e; rfl⟩, rfl, rfl, na, rfl, bare2, raises_own T.ox.exC T.ox.tyC, q2 dx n nd⟩
end

/-- lists of truths are data -/
theorem dp_bits {K : PySem.W.Frag} {H : Hp} : ∀ bs : List Bool, DpAll K H (bs.map V.bl) (bs.map PyData.bool)
  | [] => .nil
  | b :: r => .cons (.bl b) (dp_bits r)
end Nv
set_option Elab.async false
set_option linter.all false
set_option maxRecDepth 100000
set_option maxHeartbeats 4000000
/-! How long a shown datum is at most. -/
namespace Nv
open PySem PySem.Spec PyProof.Rows L2

theorem textFrom_le : ∀ (ts : List Str) (k : Nat) (acc : Str), (textFrom k acc ts).length ≤ acc.length + piled ts
  | [], k, acc => by show acc.length ≤ _; omega
  | t :: r, k, acc => by
    have ih := textFrom_le r (k + 1) (acc ++ (if k > 0 then ", " else "" : String) ++ t)
    show (textFrom (k + 1) (acc ++ (if k > 0 then ", " else "" : String) ++ t) r).length ≤ _
    rw [strLen_append, strLen_append] at ih
    have e : piled (t :: r) = t.length + 2 + piled r := by simp [piled]
    have c : (Str.ofString (if k > 0 then ", " else "" : String)).length ≤ 2 := by
      split
      · decide
      · decide
    rw [e]
    have ih' : (textFrom (k + 1) (acc ++ (if k > 0 then ", " else "" : String) ++ t) r).length ≤ acc.length + (Str.ofString (if k > 0 then ", " else "" : String)).length + t.length + piled r := ih
    omega
theorem listText_le (ts : List Str) : (listText ts).length ≤ piled ts + 2 := by
  unfold listText
  rw [strLen_append]
  have h := textFrom_le ts 0 "["
  have e : (("[" : String) : Str).length = 1 := rfl
  have e2 : (("]" : String) : Str).length = 1 := rfl
  omega
theorem tupleText_le (ts : List Str) : (tupleText ts).length ≤ piled ts + 3 := by
  unfold tupleText
  rw [strLen_append, strLen_append]
  have c : (Str.ofString (if ts.length == 1 then ",)" else ")" : String)).length ≤ 2 := by
    split
    · decide
    · decide
  have e : (("(" : String) : Str).length = 1 := rfl
  by_cases h : ts = []
  · subst h
    exact Nat.le_of_ble_eq_true rfl
  · have j := join_length_add ts h
    have c' : ((if ts.length == 1 then ",)" else ")" : String) : Str).length ≤ 2 := c
    omega
theorem intText_le {i : Int} (h : i.natAbs < 10 ^ 40) : (Str.ofString (toString i)).length ≤ 41 := by
  have e := int_text_length_le10 (k := 40) (by decide) h
  rw [PySem.ofString_length]
  omega

theorem nice_non : Nice .none := ⟨rfl, by decide, by decide, fun h => nomatch h⟩
theorem nice_bl (b : Bool) : Nice (.bool b) := by
  cases b
  · exact ⟨rfl, by decide, by decide, fun h => nomatch h⟩
  · exact ⟨rfl, by decide, by decide, fun h => nomatch h⟩
theorem log_lt {i : Int} (h : i.natAbs < 10 ^ 40) : i.natAbs.log2 < 1920 := by
  by_cases z : i.natAbs = 0
  · rw [z]
    decide
  · have a : i.natAbs.log2 < 140 := (Nat.log2_lt z).mpr (Nat.lt_trans h (by decide))
    omega
theorem nice_int {i : Int} (h : i.natAbs < 10 ^ 40) : Nice (.int i) := by
  refine ⟨?_, by show 0 ≤ 60; decide, ?_, fun h => nomatch h⟩
  · simp only [PyData.showable]
    exact decide_eq_true (log_lt h)
  · show (Str.ofString (toString i)).length ≤ sizeLine
    exact Nat.le_trans (intText_le h) (by decide)
theorem reprText_le {t : Str} (h : t.length ≤ 1000) (hc : ∀ c ∈ t.cps.toList, c < 200) : (reprText t).length ≤ 10 * t.length + 2 := StrLaws.reprText_len t fun c hm => Nat.lt_trans (hc c hm) (by decide)
theorem nice_str {t : Str} (h : t.length ≤ 1000) (hc : ∀ c ∈ t.cps.toList, c < 200) : Nice (.str t) := by
  refine ⟨rfl, by show 0 ≤ 60; decide, ?_, fun h => nomatch h⟩
  show (reprText t).length ≤ sizeLine
  have := reprText_le h hc
  exact Nat.le_trans this (Nat.le_trans (show 10 * t.length + 2 ≤ 10002 by omega) (by decide))
/-- ints in a row -/
def intsOk (xs : List Int) : Prop := ∀ x ∈ xs, x.natAbs < 10 ^ 40
theorem piled_ints : ∀ {xs : List Int}, intsOk xs → piled (PyData.shownAll (xs.map PyData.int)) ≤ 43 * xs.length
  | [], _ => Nat.le_refl _
  | x :: r, h => by
    have ih := piled_ints (xs := r) fun y hy => h y (List.mem_cons_of_mem _ hy)
    have e := intText_le (h x List.mem_cons_self)
    show piled (Str.ofString (toString x) :: PyData.shownAll (r.map PyData.int)) ≤ _
    rw [piled_cons, List.length_cons]
    omega
theorem shows_ints : ∀ {xs : List Int}, intsOk xs → PyData.showableAll (xs.map PyData.int) = true
  | [], _ => rfl
  | x :: r, h => by
    show (PyData.showable (.int x) && PyData.showableAll (r.map PyData.int)) = true
    rw [shows_ints (xs := r) fun y hy => h y (List.mem_cons_of_mem _ hy), (nice_int (h x List.mem_cons_self)).shows]
    rfl
theorem deep_ints : ∀ xs : List Int, PyData.depthAll (xs.map PyData.int) = 0
  | [] => rfl
  | x :: r => by
    show max (PyData.depth (.int x)) (PyData.depthAll (r.map PyData.int)) = 0
    rw [deep_ints r]
    rfl
theorem flat_ints : ∀ xs : List Int, PyData.hasDictAll (xs.map PyData.int) = false
  | [] => rfl
  | x :: r => by
    show (PyData.hasDict (.int x) || PyData.hasDictAll (r.map PyData.int)) = false
    rw [flat_ints r]
    rfl
/-- one nice thing ahead of ints, in a list -/
theorem nice_row {d : PyData} {xs : List Int} (n : Nice d) (nd : d.hasDict = false) (ld : d.shown.length ≤ 20000) (dd : d.depth ≤ 40) (h : intsOk xs) (l : xs.length ≤ 1000) : Nice (.list (d :: xs.map PyData.int)) := by
  refine ⟨?_, ?_, ?_, fun z => ?_⟩
  · show (PyData.showable d && PyData.showableAll (xs.map PyData.int)) = true
    rw [n.shows, shows_ints h]
    rfl
  · show (max d.depth (PyData.depthAll (xs.map PyData.int))) + 1 ≤ 60
    rw [deep_ints]
    omega
  · show (listText (d.shown :: PyData.shownAll (xs.map PyData.int))).length ≤ sizeLine
    have a := listText_le (d.shown :: PyData.shownAll (xs.map PyData.int))
    have b := piled_ints h
    rw [piled_cons] at a
    exact Nat.le_trans a (Nat.le_trans (show _ ≤ 100000 by omega) (by decide))
  · have e : PyData.hasDict (.list (d :: xs.map PyData.int)) = false := by
      show (d.hasDict || PyData.hasDictAll (xs.map PyData.int)) = false
      rw [nd, flat_ints]
      rfl
    rw [e] at z
    cases z
theorem dv_ints {H : Hp} : ∀ xs : List Int, DVs H (xs.map V.int) (xs.map PyData.int)
  | [] => .nil
  | x :: r => .cons (.int x) (dv_ints r)
theorem nice_pair {t : Str} (h : t.length ≤ 1000) (hc : ∀ c ∈ t.cps.toList, c < 200) : Nice (.tuple [.str t, .none]) := by
  refine ⟨rfl, (by show max 0 (max 0 0) + 1 ≤ 60; decide), ?_, fun z => nomatch z⟩
  show (tupleText [reprText t, Str.ofString "None"]).length ≤ sizeLine
  have a := tupleText_le [reprText t, Str.ofString "None"]
  have b := reprText_le h hc
  rw [piled_cons, piled_cons, piled_nil] at a
  have e : (Str.ofString "None").length = 4 := rfl
  exact Nat.le_trans a (Nat.le_trans (show _ ≤ 20000 by omega) (by decide))
theorem nice_empty : Nice (.dict []) := ⟨rfl, by decide, by decide, fun _ => rfl⟩
theorem nice_nil : Nice (.list []) := ⟨rfl, by decide, by decide, fun z => nomatch z⟩
end Nv
set_option Elab.async false
set_option linter.all false
set_option maxRecDepth 100000
set_option maxHeartbeats 16000000
namespace Y1
open PySem PySem.Spec PyProof.Rows L2 Nv

def top (i : Nat) : Stmt := PySem.Challenge.pw_nevercrossed_k19_faults_of_divisions.main.body.getD i (.Pass ⟨0, 0, 0, 0⟩)
abbrev sCell : Stmt := top 35
abbrev sBox : Stmt := top 36
abbrev sTake : Stmt := top 37

/-- the box at p: its counter is at most m -/
def BoxAt (H : Hp) (p : Addr) (m : Int) : Prop := ∃ b0 b1 b2 : Int, H p = some (.lst [.int b0, .int b1, .int b2]) ∧ 0 ≤ b1 ∧ b1 < 2147483648 ∧ 0 ≤ b2 ∧ b2 ≤ m
/-- all but p is as it was -/
def But (p : Addr) (H H' : Hp) : Prop := ∀ c o, c ≠ p → H c = some o → H' c = some o

def spCell (K : PySem.W.Frag) : Sp := fun vs H Q _ => ∃ (a : Addr) (ns : List Int) (k : Int), vs = [.ref a, .int k] ∧ SqL K H a (ns.map V.int) ∧ 0 ≤ k ∧ k ≤ 100 ∧ ∀ n : Int, Q (.int n) H
def spBox : Sp := fun vs H Q _ => ∃ n : Int, vs = [.int n] ∧ ∀ p H', H p = none → Same H H' → BoxAt H' p 0 → Q (.ref p) H'
def spTake : Sp := fun vs H Q _ => ∃ (p : Addr) (m many : Int), vs = [.ref p, .int many] ∧ BoxAt H p m ∧ m ≤ 1000000 ∧ 0 < many ∧ many ≤ 100000 ∧
  ∀ r H', 0 ≤ r → r < many → BoxAt H' p (m + 1) → But p H H' → Q (.int r) H'

structure Txt0 (mg : Str → Option Value) : Prop where
  len : mg "len" = none
  max : mg "max" = none
section
variable {P : Program} {w : World} {K : PySem.W.Frag} {mg : Str → Option Value} {base : Heap}
theorem scCell : FnScope ["_law_script", "_law_k"] ["_law_script", "_law_k"] (defScope sCell) := ⟨rfl, rfl, rfl, by decide +kernel, rfl, by decide +kernel, by decide +kernel⟩
theorem ok_cell {f : Addr} {fd : FuncData} (F : Fun K "_law_cell_at" "_law_cell_at" sCell f fd) (T : Txt0 mg) : FnOk P w K mg base CX0 1 f fd ["_law_script", "_law_k"] (spCell K) := by
  refine F.ok scCell (fun vs H Q E h => ?_) (fun cdv A outer s H vs Q E hr h => ?_)
  · obtain ⟨a, ns, k, rfl, _⟩ := h
    rfl
  · obtain ⟨a, ns, k, rfl, hS, h0, h1, q⟩ := h
    refine ⟨_, pss_one (ps_ret (pe_ifExp (pt_cmpR op_lt (pv 1) (pe_callB call_len_seq (by rfl) T.len PySem.boot_len (pa_cons (pv 0) pa_nil)) (nomark _))
      (pe_ix ix_list (pv 0) (pv 1) (fun _ _ => rfl)) (pe_op op_add (pe_op op_mul pe_int (pv 1)) pe_int))), ?_⟩
    refine ⟨_, rfl, _, rfl, a, _, rfl, .inl hS, _, _, rfl, rfl, _, rfl, ?_⟩
    refine ite2 (fun lt => ?_) (fun _ => ?_)
    · have hl : k < ((ns.map V.int).length : Int) := of_decide_eq_true lt
      rw [List.length_map] at hl
      obtain ⟨j, rfl⟩ : ∃ j : Nat, k = j := ⟨k.toNat, by omega⟩
      have hj : j < ns.length := by omega
      refine ⟨_, rfl, _, rfl, a, _, _, .int ns[j], rfl, rfl, hS, atI_nat ?_, q _⟩
      rw [List.getElem?_map, List.getElem?_eq_getElem hj] <;> rfl
    · exact ⟨_, rfl, _, _, rfl, rfl, .inl ⟨by decide, by decide⟩, _, _, rfl, rfl, q _⟩

theorem scBox : FnScope ["_law_number"] ["_law_number"] (defScope sBox) := ⟨rfl, rfl, rfl, by decide +kernel, rfl, by decide +kernel, by decide +kernel⟩
theorem ok_box {f : Addr} {fd : FuncData} (F : Fun K "_law_box" "_law_box" sBox f fd) (T : Txt0 mg) : FnOk P w K mg base CX0 1 f fd ["_law_number"] spBox := by
  refine F.ok scBox (fun vs H Q E h => ?_) (fun cdv A outer s H vs Q E hr h => ?_)
  · obtain ⟨n, rfl, _⟩ := h
    rfl
  · obtain ⟨n, rfl, q⟩ := h
    refine ⟨_, pss_one (ps_ret (pe_lst (pa_cons (pe_callB (call_max2 rfl) (by rfl) T.max (by decide +kernel) (pa_cons pe_int (pa_cons (pe_op op_sub (pv 0) (pe_op op_pow pe_int pe_int)) pa_nil)))
      (pa_cons (pe_op op_mod (pv 0) pe_int) (pa_cons pe_int pa_nil))))), ?_⟩
    refine ⟨_, rfl, _, _, rfl, rfl, ⟨by decide, by decide, by decide⟩, _, _, rfl, rfl, _, _, rfl, _, rfl, _, _, rfl, rfl, (by show (0 : Int) < 2147483629; decide), (by show 3 ≤ sizeLine; decide), fun p hp => ?_⟩
    refine q p _ hp (fun b o e => by rw [upd_ne (ne_of_none e hp)]; exact e) ⟨_, _, _, upd_same, ?_, ?_, by decide, by decide⟩ <;> omega

theorem scTake : FnScope ["_law_box_here", "_law_many", "_law_digit", "_law_number"] ["_law_box_here", "_law_many"] (defScope sTake) := ⟨rfl, rfl, rfl, by decide +kernel, rfl, by decide +kernel, by decide +kernel⟩
theorem ok_take {f : Addr} {fd : FuncData} (F : Fun K "_law_take" "_law_take" sTake f fd) : FnOk P w K mg base CX0 1 f fd ["_law_box_here", "_law_many"] spTake := by
  refine F.ok scTake (fun vs H Q E h => ?_) (fun cdv A outer s H vs Q E hr h => ?_)
  · obtain ⟨p, m, many, rfl, _⟩ := h
    rfl
  · obtain ⟨p, m, many, rfl, ⟨b0, b1, b2, hp, l1, u1, l2, u2⟩, hm, m0, m1, q⟩ := h
    refine ⟨_, pss_cons (ps_if (pt_cmpR op_gt (pe_ix ix_list (pv 0) pe_int (fun _ _ => rfl)) pe_int (nomark _))
        (pss_cons (ps_set (i := 2) scTake.nd rfl (Or.inl rfl) (pe_op op_mod (pe_ix ix_list (pv 0) pe_int (fun _ _ => rfl)) (pv 1)))
        (pss_cons (ps_asg (pe_op op_fdiv (pe_ix ix_list (pv 0) pe_int (fun _ _ => rfl)) (pv 1)) (pg_sub (pv 0) pe_int set_list))
        (pss_one (ps_ret (pv 2))))) pss_nil)
      (pss_cons (ps_asg (pe_op op_add (pe_ix ix_list (pv 0) pe_int (fun _ _ => rfl)) pe_int) (pg_sub (pv 0) pe_int set_list))
      (pss_cons (ps_set (i := 3) scTake.nd rfl (Or.inl rfl) (pe_op op_mod (pe_op op_pow (pe_op op_add (pe_op op_add (pe_ix ix_list (pv 0) pe_int (fun _ _ => rfl)) (pe_op op_mul pe_int (pe_ix ix_list (pv 0) pe_int (fun _ _ => rfl)))) pe_int) pe_int) pe_int))
      (pss_cons (ps_set (i := 3) scTake.nd rfl (Or.inl rfl) (pe_op op_mod (pe_op op_pow (pe_op op_add (pv 3) (pe_op op_mul pe_int (pe_ix ix_list (pv 0) pe_int (fun _ _ => rfl)))) pe_int) pe_int))
      (pss_one (ps_ret (pe_op op_mod (pe_op op_fdiv (pv 3) pe_int) (pv 1))))))), ?_⟩
    have i0 : ∀ {x y z : V}, atI [x, y, z] 0 = some x := rfl
    have i1 : ∀ {x y z : V}, atI [x, y, z] 1 = some y := rfl
    have i2 : ∀ {x y z : V}, atI [x, y, z] 2 = some z := rfl
    refine ⟨_, rfl, p, _, _, _, rfl, rfl, SqL.of hp, i0, _, _, rfl, rfl, _, rfl, ?_⟩
    refine ite2 (fun _ => ?_) (fun _ => ?_)
    · refine ⟨_, rfl, p, _, _, _, rfl, rfl, SqL.of hp, i0, _, rfl, _, _, rfl, rfl, m0, ?_⟩
      refine ⟨_, rfl, p, _, _, _, rfl, rfl, SqL.of hp, i0, _, rfl, _, _, rfl, rfl, ⟨m0, by omega⟩, _, rfl, p, _, _, 0, rfl, rfl, hp, rfl, ?_⟩
      refine ⟨_, rfl, q _ _ (Int.emod_nonneg _ (by omega)) (Int.emod_lt_of_pos _ m0) ⟨_, _, _, upd_same, l1, u1, l2, by omega⟩ fun c o ne e => ?_⟩
      rw [upd_ne ne]
      exact e
    · refine ⟨_, rfl, p, _, _, _, rfl, rfl, SqL.of hp, i2, _, _, rfl, rfl, _, rfl, p, _, _, 2, rfl, rfl, hp, rfl, ?_⟩
      have hq : upd H p (.lst ([V.int b0, .int b1, .int b2].set 2 (.int (b2 + 1)))) p = some (.lst [.int b0, .int b1, .int (b2 + 1)]) := upd_same
      refine ⟨_, rfl, p, _, _, _, rfl, rfl, SqL.of hq, i1, _, rfl, p, _, _, _, rfl, rfl, SqL.of hq, i2, _, _, rfl, rfl, .inl ⟨by decide, by decide⟩, _, _, rfl, rfl, _, _, rfl, rfl, _, _, rfl, rfl, ⟨by decide, by decide, by omega⟩, _, _, rfl, rfl, (by show (0 : Int) < 2147483647; decide), ?_⟩
      have z1 : ∀ x : Int, 0 ≤ x % 2147483647 ∧ x % 2147483647 < 2147483647 := fun x => ⟨Int.emod_nonneg _ (by decide), Int.emod_lt_of_pos _ (by decide)⟩
      generalize hn : ((b1 + 6896 * (b2 + 1) + 1224) ^ (5 : Int).toNat) % 2147483647 = n1
      have b1' := z1 ((b1 + 6896 * (b2 + 1) + 1224) ^ (5 : Int).toNat)
      rw [hn] at b1'
      refine ⟨_, rfl, _, rfl, p, _, _, _, rfl, rfl, SqL.of hq, i2, _, _, rfl, rfl, .inl ⟨by decide, by decide⟩, _, _, rfl, rfl, _, _, rfl, rfl, ⟨by decide, by decide, by omega⟩, _, _, rfl, rfl, (by show (0 : Int) < 2147483587; decide), ?_⟩
      refine ⟨_, rfl, _, _, rfl, rfl, ⟨by decide, by decide⟩, _, rfl, _, _, rfl, rfl, m0, ?_⟩
      refine q _ _ (Int.emod_nonneg _ (by omega)) (Int.emod_lt_of_pos _ m0) ⟨_, _, _, hq, l1, u1, by omega, by omega⟩ fun c o ne e => ?_
      rw [upd_ne ne]
      exact e
end
end Y1
set_option Elab.async false
set_option linter.all false
set_option maxRecDepth 100000
set_option maxHeartbeats 4000000
/-! The data layer: what a def does, told over plain data; objects that nobody changes are data, lists that one name alone holds are owned. -/
namespace DL
open PySem PySem.Spec PyProof.Rows L2 Nv

inductive Dat (Ω : Type) where
  | non | bl (b : Bool) | int (i : Int) | str (x : Str)
  | lst (ds : List (Dat Ω)) | tup (ds : List (Dat Ω))
  | dK (ks : List Key) (ds : List (Dat Ω)) | dT (ks : List (List Key)) (ds : List (Dat Ω))
  | obj (o : Ω)
inductive GO (Ω : Type) where
  | ho (o : HO) | ob (o : Ω)
abbrev Gh (Ω : Type) := Addr → Option (GO Ω)
def gup {Ω : Type} (g : Gh Ω) (a : Addr) (o : GO Ω) : Gh Ω := fun b => if b = a then some o else g b
def Le {Ω : Type} (g g' : Gh Ω) : Prop := ∀ a o, g a = some o → g' a = some o
/-- a written tuple -/
def WrT (K : PySem.W.Frag) (a : Addr) (xs : List V) : Prop := ∃ (o : Obj) (its : Array Value) (n : Nat), K.lookup a = some o ∧ o.cls = .type "tuple" ∧ o.data = .seq its n ∧ its.size ≤ sizeLine ∧ Vals xs its.toList
section
variable {Ω : Type}
theorem gup_same {g : Gh Ω} {a : Addr} {o : GO Ω} : gup g a o a = some o := if_pos rfl
theorem gup_ne {g : Gh Ω} {a b : Addr} {o : GO Ω} (h : b ≠ a) : gup g a o b = g b := if_neg h
theorem Le.refl (g : Gh Ω) : Le g g := fun _ _ e => e
theorem Le.tr {a b c : Gh Ω} (h : Le a b) (k : Le b c) : Le a c := fun x o e => k x o (h x o e)
theorem Le.up {g : Gh Ω} {a : Addr} {o : GO Ω} (n : g a = none) : Le g (gup g a o) := fun b u e => by
  rw [gup_ne (fun z => by rw [z, n] at e; cases e)]
  exact e
mutual
inductive DV (K : PySem.W.Frag) (g : Gh Ω) : V → Dat Ω → Prop
  | non : DV K g .non .non
  | bl (b : Bool) : DV K g (.bl b) (.bl b)
  | int (i : Int) : DV K g (.int i) (.int i)
  | str (x : Str) : DV K g (.str x) (.str x)
  | lst {a : Addr} {xs : List V} {ds : List (Dat Ω)} (h : g a = some (.ho (.lst xs))) (r : DVs K g xs ds) : DV K g (.ref a) (.lst ds)
  | tup {a : Addr} {xs : List V} {ds : List (Dat Ω)} (h : g a = some (.ho (.tup xs))) (r : DVs K g xs ds) : DV K g (.ref a) (.tup ds)
  | dK {a : Addr} {ks : List Key} {xs : List V} {ds : List (Dat Ω)} (h : g a = some (.ho (.dK (ks.zip xs)))) (l : ks.length = xs.length) (r : DVs K g xs ds) : DV K g (.ref a) (.dK ks ds)
  | dT {a : Addr} {ks : List (List Key)} {xs : List V} {ds : List (Dat Ω)} (h : g a = some (.ho (.dT (ks.zip xs)))) (l : ks.length = xs.length) (r : DVs K g xs ds) : DV K g (.ref a) (.dT ks ds)
  | obj {a : Addr} {o : Ω} (h : g a = some (.ob o)) : DV K g (.ref a) (.obj o)
inductive DVs (K : PySem.W.Frag) (g : Gh Ω) : List V → List (Dat Ω) → Prop
  | nil : DVs K g [] []
  | cons {x : V} {xs : List V} {d : Dat Ω} {ds : List (Dat Ω)} (h : DV K g x d) (r : DVs K g xs ds) : DVs K g (x :: xs) (d :: ds)
end
variable {K : PySem.W.Frag} {g g' : Gh Ω}
mutual
theorem DV.more (k : Le g g') : ∀ {v : V} {d : Dat Ω}, DV K g v d → DV K g' v d
  | _, _, .non => .non
  | _, _, .bl b => .bl b
  | _, _, .int i => .int i
  | _, _, .str x => .str x
  | _, _, .lst h r => .lst (k _ _ h) (r.more k)
  | _, _, .tup h r => .tup (k _ _ h) (r.more k)
  | _, _, .dK h l r => .dK (k _ _ h) l (r.more k)
  | _, _, .dT h l r => .dT (k _ _ h) l (r.more k)
  | _, _, .obj h => .obj (k _ _ h)
theorem DVs.more (k : Le g g') : ∀ {vs : List V} {ds : List (Dat Ω)}, DVs K g vs ds → DVs K g' vs ds
  | _, _, .nil => .nil
  | _, _, .cons h r => .cons (h.more k) (r.more k)
end
theorem DVs.length : ∀ {vs : List V} {ds : List (Dat Ω)}, DVs K g vs ds → vs.length = ds.length
  | _, _, .nil => rfl
  | _, _, .cons _ r => by rw [List.length_cons, List.length_cons, r.length]
theorem DVs.at : ∀ {vs : List V} {ds : List (Dat Ω)}, DVs K g vs ds → ∀ (i : Nat) (v : V), vs[i]? = some v → ∃ d, ds[i]? = some d ∧ DV K g v d
  | _, _, .cons h r, 0, v, e => ⟨_, rfl, by cases e; exact h⟩
  | _, _, .cons h r, i + 1, v, e => r.at i v (by simpa using e)
theorem DVs.at' : ∀ {vs : List V} {ds : List (Dat Ω)}, DVs K g vs ds → ∀ (i : Nat) (d : Dat Ω), ds[i]? = some d → ∃ v, vs[i]? = some v ∧ DV K g v d
  | _, _, .cons h r, 0, v, e => ⟨_, rfl, by cases e; exact h⟩
  | _, _, .cons h r, i + 1, v, e => r.at' i v (by simpa using e)
theorem DVs.append : ∀ {xs ys : List V} {ds es : List (Dat Ω)}, DVs K g xs ds → DVs K g ys es → DVs K g (xs ++ ys) (ds ++ es)
  | _, _, _, _, .nil, r => r
  | _, _, _, _, .cons h q, r => .cons h (q.append r)
theorem DVs.take : ∀ {xs : List V} {ds : List (Dat Ω)} (n : Nat), DVs K g xs ds → DVs K g (xs.take n) (ds.take n)
  | _, _, 0, _ => .nil
  | _, _, _ + 1, .nil => .nil
  | _, _, n + 1, .cons h r => .cons h (r.take n)
theorem DVs.drop : ∀ {xs : List V} {ds : List (Dat Ω)} (n : Nat), DVs K g xs ds → DVs K g (xs.drop n) (ds.drop n)
  | _, _, 0, r => r
  | _, _, _ + 1, .nil => .nil
  | _, _, n + 1, .cons h r => r.drop n
theorem DVs.reverse : ∀ {xs : List V} {ds : List (Dat Ω)}, DVs K g xs ds → DVs K g xs.reverse ds.reverse
  | _, _, .nil => .nil
  | _, _, .cons h r => by
    rw [List.reverse_cons, List.reverse_cons]
    exact r.reverse.append (.cons h .nil)
theorem DVs.set : ∀ {xs : List V} {ds : List (Dat Ω)} (i : Nat) {v : V} {d : Dat Ω}, DVs K g xs ds → DV K g v d → DVs K g (xs.set i v) (ds.set i d)
  | _, _, _, _, _, .nil, _ => .nil
  | _, _, 0, _, _, .cons h r, k => .cons k r
  | _, _, i + 1, _, _, .cons h r, k => .cons h (r.set i k)

/-- what is true of objects of one's own classes -/
structure Obs (Ω : Type) where
  ok : Gh Ω → HO → Ω → Prop
  mono : ∀ {g g' : Gh Ω} {h : HO} {o : Ω}, Le g g' → ok g h o → ok g' h o
/-- a slot -/
inductive Sl (Ω : Type) where
  | dat (d : Dat Ω) | own (ds : List (Dat Ω)) | ownK (ks : List Key) (ds : List (Dat Ω)) | box (p : Addr) (m : Nat) | raw (v : V)
def Sl.owned : Sl Ω → Bool
  | .own _ => true
  | .ownK _ _ => true
  | .box _ _ => true
  | _ => false
/-- the box at p: its counter is at most m -/
def BoxAt (H : Hp) (p : Addr) (m : Nat) : Prop := ∃ b0 b1 b2 : Int, H p = some (.lst [.int b0, .int b1, .int b2]) ∧ 0 ≤ b1 ∧ b1 < 2147483648 ∧ 0 ≤ b2 ∧ b2 ≤ (m : Int)
def SlOk (K : PySem.W.Frag) (g : Gh Ω) (H : Hp) (v : V) : Sl Ω → Prop
  | .dat d => DV K g v d
  | .own ds => ∃ L vs, v = .ref L ∧ g L = none ∧ H L = some (.lst vs) ∧ DVs K g vs ds
  | .ownK ks ds => ∃ L vs, v = .ref L ∧ g L = none ∧ H L = some (.dK (ks.zip vs)) ∧ ks.length = vs.length ∧ DVs K g vs ds
  | .box p m => v = .ref p ∧ g p = none ∧ BoxAt H p m
  | .raw w => v = w
def isDic : HO → Bool
  | .dK kvs => !kvs.isEmpty
  | .dT kvs => !kvs.isEmpty
  | _ => false
def Real (W : Obs Ω) (g : Gh Ω) (H : Hp) (a : Addr) : GO Ω → Prop
  | .ho o => H a = some o ∨ (isDic o = true ∧ ∃ ob, H a = some (.frz ob o))
  | .ob o => ∃ h, H a = some h ∧ W.ok g h o
abbrev Gam (Ω : Type) := List (Option (Sl Ω))
structure Rep (K : PySem.W.Frag) (W : Obs Ω) (F : Hp) (g : Gh Ω) (γ : Gam Ω) (σ : L2.St) (H : Hp) : Prop where
  len : σ.length = γ.length
  sl : ∀ (i : Nat) s, γ[i]? = some (some s) → ∃ v, σ[i]? = some (some v) ∧ SlOk K g H v s
  apart : ∀ (i j : Nat) s t L, i ≠ j → γ[i]? = some (some s) → γ[j]? = some (some t) → s.owned = true → t.owned = true → σ[i]? = some (some (.ref L)) → σ[j]? = some (some (.ref L)) → False
  sub : ∀ a o, g a = some o → Real W g H a o
  fr : ∀ a o, F a = some o → H a = some o ∧ g a = none
  fo : ∀ (i : Nat) s L, γ[i]? = some (some s) → s.owned = true → σ[i]? = some (some (.ref L)) → F L = none
/-- only new objects came -/
structure Grow (W : Obs Ω) (g : Gh Ω) (H : Hp) (g' : Gh Ω) (H' : Hp) : Prop where
  le : Le g g'
  keep : ∀ a o, H a = some o → H' a = some o
  sub : ∀ a o, g' a = some o → Real W g' H' a o
  new : ∀ a o, H a = some o → g a = none → g' a = none
theorem Real.mono {W : Obs Ω} {g g' : Gh Ω} {H H' : Hp} {a : Addr} {o : GO Ω} (le : Le g g') (k : ∀ o, H a = some o → H' a = some o) (r : Real W g H a o) : Real W g' H' a o := by
  cases o with
  | ho o =>
    rcases r with r | ⟨d, ob, r⟩
    · exact .inl (k _ r)
    · exact .inr ⟨d, ob, k _ r⟩
  | ob o =>
    obtain ⟨h, e, w⟩ := r
    exact ⟨h, k _ e, W.mono le w⟩
theorem Real.sm {W : Obs Ω} {g : Gh Ω} {H : Hp} {a : Addr} {o : GO Ω} (r : Real W g H a o) : ∃ h, H a = some h := by
  cases o with
  | ho o =>
    rcases r with r | ⟨d, ob, r⟩
    · exact ⟨_, r⟩
    · exact ⟨_, r⟩
  | ob o =>
    obtain ⟨h, e, w⟩ := r
    exact ⟨h, e⟩
theorem gnone {W : Obs Ω} {g : Gh Ω} {H : Hp} {p : Addr} (s : ∀ a o, g a = some o → Real W g H a o) (n : H p = none) : g p = none := by
  cases e : g p with
  | none => rfl
  | some u =>
    obtain ⟨h, e2⟩ := (s _ _ e).sm
    rw [n] at e2
    cases e2
theorem Grow.refl {W : Obs Ω} {g : Gh Ω} {H : Hp} (s : ∀ a o, g a = some o → Real W g H a o) : Grow W g H g H := ⟨.refl g, fun _ _ e => e, s, fun _ _ _ e => e⟩
theorem Grow.tr {W : Obs Ω} {a b c : Gh Ω} {H H1 H2 : Hp} (x : Grow W a H b H1) (y : Grow W b H1 c H2) : Grow W a H c H2 :=
  ⟨x.le.tr y.le, fun p o e => y.keep p o (x.keep p o e), y.sub, fun p o e n => y.new p o (x.keep p o e) (x.new p o e n)⟩
/-- a new object, as data -/
theorem Grow.dat {W : Obs Ω} {g : Gh Ω} {H : Hp} {p : Addr} {o : HO} (s : ∀ a o, g a = some o → Real W g H a o) (n : H p = none) : Grow W g H (gup g p (.ho o)) (upd H p o) := by
  have gn : g p = none := gnone s n
  have kp : ∀ a o', H a = some o' → upd H p o a = some o' := fun a o' e => by
    rw [upd_ne (fun z => by rw [z, n] at e; cases e)]
    exact e
  refine ⟨.up gn, kp, fun a u e => ?_, fun a u e na => ?_⟩
  · by_cases ha : a = p
    · subst ha
      rw [gup_same] at e
      cases e
      exact .inl upd_same
    · rw [gup_ne ha] at e
      exact (s a u e).mono (.up gn) fun o' q => kp a o' q
  · rw [gup_ne (fun z => by rw [z, n] at e; cases e)]
    exact na
/-- a new object, not as data -/
theorem Grow.own {W : Obs Ω} {g : Gh Ω} {H : Hp} {p : Addr} {o : HO} (s : ∀ a o, g a = some o → Real W g H a o) (n : H p = none) : Grow W g H g (upd H p o) := by
  have kp : ∀ a o', H a = some o' → upd H p o a = some o' := fun a o' e => by
    rw [upd_ne (fun z => by rw [z, n] at e; cases e)]
    exact e
  exact ⟨.refl g, kp, fun a u e => (s a u e).mono (.refl g) fun o' q => kp a o' q, fun _ _ _ e => e⟩
variable {W : Obs Ω}
theorem SlOk.grow {g g' : Gh Ω} {H H' : Hp} {v : V} {s : Sl Ω} (G : Grow W g H g' H') (h : SlOk K g H v s) : SlOk K g' H' v s := by
  cases s with
  | dat d => exact DV.more G.le h
  | own ds =>
    obtain ⟨L, vs, e, n, hl, r⟩ := h
    exact ⟨L, vs, e, G.new _ _ hl n, G.keep _ _ hl, r.more G.le⟩
  | ownK ks ds =>
    obtain ⟨L, vs, e, n, hl, l, r⟩ := h
    exact ⟨L, vs, e, G.new _ _ hl n, G.keep _ _ hl, l, r.more G.le⟩
  | box p m =>
    obtain ⟨e, n, b0, b1, b2, hp, r⟩ := h
    exact ⟨e, G.new _ _ hp n, b0, b1, b2, G.keep _ _ hp, r⟩
  | raw w => exact h
theorem Rep.grow {F : Hp} {g g' : Gh Ω} {γ : Gam Ω} {σ : L2.St} {H H' : Hp} (R : Rep K W F g γ σ H) (G : Grow W g H g' H') : Rep K W F g' γ σ H' where
  len := R.len
  sl := fun i s e => by
    obtain ⟨v, h1, h2⟩ := R.sl i s e
    exact ⟨v, h1, h2.grow G⟩
  apart := R.apart
  sub := G.sub
  fr := fun a o e => by
    obtain ⟨h1, h2⟩ := R.fr a o e
    exact ⟨G.keep _ _ h1, G.new _ _ h1 h2⟩
  fo := R.fo
/-- a slot is stored -/
theorem Rep.set {F : Hp} {g : Gh Ω} {γ : Gam Ω} {σ : L2.St} {H : Hp} (R : Rep K W F g γ σ H) (i : Nat) {v : V} {s : Sl Ω} (h : SlOk K g H v s)
    (ap : s.owned = true → ∀ L, v = .ref L → F L = none ∧ ∀ (j : Nat) t, γ[j]? = some (some t) → t.owned = true → σ[j]? ≠ some (some (.ref L))) : Rep K W F g (γ.set i (some s)) (σ.set i (some v)) H where
  len := by rw [List.length_set, List.length_set]; exact R.len
  sl := fun j t e => by
    by_cases hj : i = j
    · subst hj
      by_cases hl : i < γ.length
      · rw [List.getElem?_set_self hl] at e
        cases e
        exact ⟨v, by rw [List.getElem?_set_self (by rw [R.len]; exact hl)], h⟩
      · rw [List.getElem?_eq_none (by rw [List.length_set]; omega)] at e
        cases e
    · rw [List.getElem?_set_ne hj] at e
      obtain ⟨u, h1, h2⟩ := R.sl j t e
      exact ⟨u, by rw [List.getElem?_set_ne hj]; exact h1, h2⟩
  apart := fun a b s' t L ne ha hb os ot va vb => by
    by_cases h1 : i = a
    · subst h1
      have hl : i < γ.length := by
        by_cases hl : i < γ.length
        · exact hl
        · rw [List.getElem?_eq_none (by rw [List.length_set]; omega)] at ha
          cases ha
      rw [List.getElem?_set_self hl] at ha
      rw [List.getElem?_set_self (by rw [R.len]; exact hl)] at va
      rw [List.getElem?_set_ne ne] at hb vb
      cases ha
      cases va
      exact (ap os L rfl).2 b t hb ot vb
    · rw [List.getElem?_set_ne h1] at ha va
      by_cases h2 : i = b
      · subst h2
        have hl : i < γ.length := by
          by_cases hl : i < γ.length
          · exact hl
          · rw [List.getElem?_eq_none (by rw [List.length_set]; omega)] at hb
            cases hb
        rw [List.getElem?_set_self hl] at hb
        rw [List.getElem?_set_self (by rw [R.len]; exact hl)] at vb
        cases hb
        cases vb
        exact (ap ot L rfl).2 a s' ha os va
      · rw [List.getElem?_set_ne h2] at hb vb
        exact R.apart a b s' t L ne ha hb os ot va vb
  sub := R.sub
  fr := R.fr
  fo := fun j t L e ot ev => by
    by_cases h1 : i = j
    · subst h1
      have hl : i < γ.length := by
        by_cases hl : i < γ.length
        · exact hl
        · rw [List.getElem?_eq_none (by rw [List.length_set]; omega)] at e
          cases e
      rw [List.getElem?_set_self hl] at e
      rw [List.getElem?_set_self (by rw [R.len]; exact hl)] at ev
      cases e
      cases ev
      exact (ap ot L rfl).1
    · rw [List.getElem?_set_ne h1] at e ev
      exact R.fo j t L e ot ev
/-- a slot that is not owned -/
theorem Rep.setD {F : Hp} {g : Gh Ω} {γ : Gam Ω} {σ : L2.St} {H : Hp} (R : Rep K W F g γ σ H) (i : Nat) {v : V} {d : Dat Ω} (h : DV K g v d) : Rep K W F g (γ.set i (some (.dat d))) (σ.set i (some v)) H :=
  R.set i (s := .dat d) h fun e => nomatch e
/-- a slot is forgotten -/
theorem Rep.unset {F : Hp} {g : Gh Ω} {γ : Gam Ω} {σ : L2.St} {H : Hp} (R : Rep K W F g γ σ H) (i : Nat) (x : Option V) : Rep K W F g (γ.set i none) (σ.set i x) H where
  len := by rw [List.length_set, List.length_set]; exact R.len
  sl := fun j t e => by
    by_cases hj : i = j
    · subst hj
      by_cases hl : i < γ.length
      · rw [List.getElem?_set_self hl] at e
        cases e
      · rw [List.getElem?_eq_none (by rw [List.length_set]; omega)] at e
        cases e
    · rw [List.getElem?_set_ne hj] at e
      obtain ⟨u, h1, h2⟩ := R.sl j t e
      exact ⟨u, by rw [List.getElem?_set_ne hj]; exact h1, h2⟩
  apart := fun a b s' t L ne ha hb os ot va vb => by
    have na : i ≠ a := fun z => by
      subst z
      by_cases hl : i < γ.length
      · rw [List.getElem?_set_self hl] at ha
        cases ha
      · rw [List.getElem?_eq_none (by rw [List.length_set]; omega)] at ha
        cases ha
    have nb : i ≠ b := fun z => by
      subst z
      by_cases hl : i < γ.length
      · rw [List.getElem?_set_self hl] at hb
        cases hb
      · rw [List.getElem?_eq_none (by rw [List.length_set]; omega)] at hb
        cases hb
    rw [List.getElem?_set_ne na] at ha va
    rw [List.getElem?_set_ne nb] at hb vb
    exact R.apart a b s' t L ne ha hb os ot va vb
  sub := R.sub
  fr := R.fr
  fo := fun j t L e ot ev => by
    have nj : i ≠ j := fun z => by
      subst z
      by_cases hl : i < γ.length
      · rw [List.getElem?_set_self hl] at e
        cases e
      · rw [List.getElem?_eq_none (by rw [List.length_set]; omega)] at e
        cases e
    rw [List.getElem?_set_ne nj] at e ev
    exact R.fo j t L e ot ev
/-- an owned list becomes data -/
theorem Rep.demote {F : Hp} {g : Gh Ω} {γ : Gam Ω} {σ : L2.St} {H : Hp} (R : Rep K W F g γ σ H) {i : Nat} {ds : List (Dat Ω)} (e : γ[i]? = some (some (.own ds))) :
    ∃ g' v, Le g g' ∧ Rep K W F g' (γ.set i (some (.dat (.lst ds)))) σ H ∧ σ[i]? = some (some v) ∧ DV K g' v (.lst ds) := by
  obtain ⟨v, hv, L, vs, rfl, gn, hL, r⟩ := R.sl i _ e
  have le : Le g (gup g L (.ho (.lst vs))) := .up gn
  have dv : DV K (gup g L (.ho (.lst vs))) (.ref L) (.lst ds) := .lst gup_same (r.more le)
  have hl : i < γ.length := (List.getElem?_eq_some_iff.mp e).1
  refine ⟨gup g L (.ho (.lst vs)), .ref L, le, ?_, hv, dv⟩
  refine ⟨by rw [List.length_set]; exact R.len, fun j t ej => ?_, fun a b s t L' ne ha hb os ot va vb => ?_, fun a o ea => ?_, fun a o ea => ?_, fun j t L' ej ot vj => ?_⟩
  · by_cases hj : i = j
    · subst hj
      rw [List.getElem?_set_self hl] at ej
      cases ej
      exact ⟨_, hv, dv⟩
    · rw [List.getElem?_set_ne hj] at ej
      obtain ⟨u, h1, h2⟩ := R.sl j t ej
      refine ⟨u, h1, ?_⟩
      cases t with
      | dat d => exact DV.more le h2
      | own es =>
        obtain ⟨L2, ws, rfl, n2, e2, r2⟩ := h2
        have ne : L2 ≠ L := fun z => R.apart i j _ _ L hj e ej rfl rfl hv (by rw [h1, z])
        exact ⟨L2, ws, rfl, by rw [gup_ne ne]; exact n2, e2, r2.more le⟩
      | ownK ks es =>
        obtain ⟨L2, ws, rfl, n2, e2, l2, r2⟩ := h2
        have ne : L2 ≠ L := fun z => R.apart i j _ _ L hj e ej rfl rfl hv (by rw [h1, z])
        exact ⟨L2, ws, rfl, by rw [gup_ne ne]; exact n2, e2, l2, r2.more le⟩
      | box p m =>
        obtain ⟨rfl, n2, b⟩ := h2
        have ne : p ≠ L := fun z => R.apart i j _ _ L hj e ej rfl rfl hv (by rw [h1, z])
        exact ⟨rfl, by rw [gup_ne ne]; exact n2, b⟩
      | raw w => exact h2
  · have na : i ≠ a := fun z => by
      subst z
      rw [List.getElem?_set_self hl] at ha
      cases ha
      cases os
    have nb : i ≠ b := fun z => by
      subst z
      rw [List.getElem?_set_self hl] at hb
      cases hb
      cases ot
    rw [List.getElem?_set_ne na] at ha
    rw [List.getElem?_set_ne nb] at hb
    exact R.apart a b s t L' ne ha hb os ot va vb
  · by_cases hz : a = L
    · subst hz
      rw [gup_same] at ea
      cases ea
      exact .inl hL
    · rw [gup_ne hz] at ea
      exact (R.sub a o ea).mono le fun _ q => q
  · obtain ⟨h1, h2⟩ := R.fr a o ea
    refine ⟨h1, ?_⟩
    have ne : a ≠ L := fun z => by
      have := R.fo i _ L e rfl hv
      rw [z, this] at ea
      cases ea
    rw [gup_ne ne]
    exact h2
  · have nj : i ≠ j := fun z => by
      subst z
      rw [List.getElem?_set_self hl] at ej
      cases ej
      cases ot
    rw [List.getElem?_set_ne nj] at ej
    exact R.fo j t L' ej ot vj
end
end DL
set_option Elab.async false
set_option linter.all false
set_option maxRecDepth 100000
set_option maxHeartbeats 4000000
namespace DL
open PySem PySem.Spec PyProof.Rows L2 Nv

theorem PEc {X : Cx} {e : Expr} {t t' : TE} (h : PE X e t) (k : ∀ σ H Q, t' σ H Q → t σ H Q) : PE X e t' := ⟨fun pins s σ H Q I q => h.run pins s σ H Q I (k σ H Q q)⟩
theorem PTc {X : Cx} {e : Expr} {t t' : TT} (h : PT X e t) (k : ∀ σ H Q, t' σ H Q → t σ H Q) : PT X e t' := ⟨fun pins s σ H Q I q => h.run pins s σ H Q I (k σ H Q q)⟩
theorem PWc {X : Cx} {e : Expr} {t t' : TT} (h : PW X e t) (k : ∀ σ H Q, t' σ H Q → t σ H Q) : PW X e t' := ⟨fun wh pins s σ H Q I q => h.run wh pins s σ H Q I (k σ H Q q)⟩
theorem PSc {X : Cx} {e : Stmt} {t t' : TS} (h : PS X e t) (k : ∀ D σ H, t' D σ H → t D σ H) : PS X e t' := ⟨fun pins s σ H D I q => h.run pins s σ H D I (k D σ H q)⟩
theorem PSsc {X : Cx} {e : List Stmt} {t t' : TS} (h : PSs X e t) (k : ∀ D σ H, t' D σ H → t D σ H) : PSs X e t' := ⟨fun pins s σ H D I q => h.run pins s σ H D I (k D σ H q)⟩

section
variable {Ω : Type} {K : PySem.W.Frag} {W : Obs Ω}
abbrev DE (Ω : Type) := Gam Ω → (Dat Ω → Gam Ω → Prop) → Prop
abbrev DT (Ω : Type) := Gam Ω → (Bool → Gam Ω → Prop) → Prop
def up (K : PySem.W.Frag) (W : Obs Ω) (T : DE Ω) : TE := fun σ H Q => ∃ F g γ q, Rep K W F g γ σ H ∧ T γ q ∧ ∀ d γ' v H' g', q d γ' → Le g g' → Rep K W F g' γ' σ H' → DV K g' v d → Q v H'
/-- a new list, not yet data -/
def upF (K : PySem.W.Frag) (W : Obs Ω) (T : DE Ω) : TE := fun σ H Q => ∃ F g γ q, Rep K W F g γ σ H ∧ T γ q ∧ ∀ zs γ' ws L H1 g1, q (.lst zs) γ' → Le g g1 → Rep K W F g1 γ' σ H1 → H1 L = none → DVs K g1 ws zs → Q (.ref L) (upd H1 L (.lst ws))
def upT (K : PySem.W.Frag) (W : Obs Ω) (T : DT Ω) : TT := fun σ H Q => ∃ F g γ q, Rep K W F g γ σ H ∧ T γ q ∧ ∀ b γ' H' g', q b γ' → Le g g' → Rep K W F g' γ' σ H' → Q b H'
inductive Opn (Ω : Type) where
  | nm (i : Nat) | ex (T : DE Ω)
def upO (K : PySem.W.Frag) (W : Obs Ω) : Opn Ω → TE
  | .nm i => tVar i
  | .ex T => up K W T
def upA (K : PySem.W.Frag) (W : Obs Ω) : List (Opn Ω) → TA
  | [] => tNil
  | A :: As => tCons (upO K W A) (upA K W As)
def known (s : Option (Option (Sl Ω))) : Bool := match s with
  | some (some _) => true
  | _ => false
def evL : List (Opn Ω) → Gam Ω → (List (Option (Dat Ω)) → Gam Ω → Prop) → Prop
  | [], γ, r => r [] γ
  | .nm i :: As, γ, r => match γ[i]? with
    | some (some _) => evL As γ fun os γ' => r (none :: os) γ'
    | _ => False
  | .ex T :: As, γ, r => T γ fun d γ1 => evL As γ1 fun os γ' => r (some d :: os) γ'
/-- a slot's datum -/
def sd : Option (Option (Sl Ω)) → Option (Dat Ω)
  | some (some (.dat d)) => some d
  | some (some (.own ds)) => some (.lst ds)
  | some (some (.ownK ks ds)) => some (.dK ks ds)
  | _ => none
def late : List (Opn Ω) → List (Option (Dat Ω)) → Gam Ω → (List (Dat Ω) → Prop) → Prop
  | [], [], _, r => r []
  | .nm i :: As, _ :: os, γ, r => match sd γ[i]? with
    | some d => late As os γ fun ds => r (d :: ds)
    | none => False
  | .ex _ :: As, some d :: os, γ, r => late As os γ fun ds => r (d :: ds)
  | _, _, _, _ => False
def tOps (As : List (Opn Ω)) (f : List (Dat Ω) → (Dat Ω → Prop) → Prop) : DE Ω := fun γ q => evL As γ fun os γ' => late As os γ' fun ds => f ds fun z => q z γ'
def tOpsT (As : List (Opn Ω)) (f : List (Dat Ω) → (Bool → Prop) → Prop) : DT Ω := fun γ q => evL As γ fun os γ' => late As os γ' fun ds => f ds fun z => q z γ'

/-- a value for the time being -/
inductive PV (K : PySem.W.Frag) (g : Gh Ω) (H : Hp) : V → Dat Ω → Prop
  | dat {v : V} {d : Dat Ω} (h : DV K g v d) : PV K g H v d
  | own {L : Addr} {vs : List V} {ds : List (Dat Ω)} (h : H L = some (.lst vs)) (r : DVs K g vs ds) : PV K g H (.ref L) (.lst ds)
  | ownK {L : Addr} {ks : List Key} {vs : List V} {ds : List (Dat Ω)} (h : H L = some (.dK (ks.zip vs))) (l : ks.length = vs.length) (r : DVs K g vs ds) : PV K g H (.ref L) (.dK ks ds)
inductive PVs (K : PySem.W.Frag) (g : Gh Ω) (H : Hp) : List V → List (Dat Ω) → Prop
  | nil : PVs K g H [] []
  | cons {v : V} {vs : List V} {d : Dat Ω} {ds : List (Dat Ω)} (h : PV K g H v d) (r : PVs K g H vs ds) : PVs K g H (v :: vs) (d :: ds)
/-- what was evaluated -/
inductive Tm (K : PySem.W.Frag) (σ : L2.St) (g : Gh Ω) : List (Opn Ω) → List (Option (Dat Ω)) → List V → Prop
  | nil : Tm K σ g [] [] []
  | nm {i : Nat} {v : V} {As : List (Opn Ω)} {os : List (Option (Dat Ω))} {vs : List V} (h : σ[i]? = some (some v)) (r : Tm K σ g As os vs) : Tm K σ g (.nm i :: As) (none :: os) (v :: vs)
  | ex {T : DE Ω} {d : Dat Ω} {v : V} {As : List (Opn Ω)} {os : List (Option (Dat Ω))} {vs : List V} (h : DV K g v d) (r : Tm K σ g As os vs) : Tm K σ g (.ex T :: As) (some d :: os) (v :: vs)
theorem Rep.at {F : Hp} {g : Gh Ω} {γ : Gam Ω} {σ : L2.St} {H : Hp} (R : Rep K W F g γ σ H) {i : Nat} {s : Sl Ω} (e : γ[i]? = some (some s)) : ∃ v, σ[i]? = some (some v) ∧ SlOk K g H v s := R.sl i s e
theorem ev_sound : ∀ (As : List (Opn Ω)) {F : Hp} {g : Gh Ω} {γ : Gam Ω} {σ : L2.St} {H : Hp} {r : List (Option (Dat Ω)) → Gam Ω → Prop} {Q : List V → Hp → Prop}, Rep K W F g γ σ H → evL As γ r →
    (∀ os γ' g' vs H', r os γ' → Le g g' → Rep K W F g' γ' σ H' → Tm K σ g' As os vs → Q vs H') → upA K W As σ H Q
  | [], F, g, γ, σ, H, r, Q, R, e, k => k [] γ g [] H e (.refl g) R .nil
  | .nm i :: As, F, g, γ, σ, H, r, Q, R, e, k => by
    unfold evL at e
    split at e
    · rename_i s hs
      obtain ⟨v, hv, _⟩ := R.sl i s hs
      exact ⟨v, hv, ev_sound As R e fun os γ' g' vs H' q le R' t => k _ _ _ _ _ q le R' (.nm hv t)⟩
    · exact e.elim
  | .ex T :: As, F, g, γ, σ, H, r, Q, R, e, k => by
    unfold evL at e
    exact ⟨F, g, γ, _, R, e, fun d γ' v H' g' q le R' dv => ev_sound As R' q fun os γ2 g2 vs H2 q2 le2 R2 t => k _ _ _ _ _ q2 (le.tr le2) R2 (.ex (dv.more le2) t)⟩
theorem late_sound : ∀ {As : List (Opn Ω)} {os : List (Option (Dat Ω))} {vs : List V} {F : Hp} {g : Gh Ω} {γ : Gam Ω} {σ : L2.St} {H : Hp} {r : List (Dat Ω) → Prop}, Rep K W F g γ σ H → Tm K σ g As os vs → late As os γ r → ∃ ds, r ds ∧ PVs K g H vs ds
  | _, _, _, F, g, γ, σ, H, r, R, .nil, e => ⟨[], e, .nil⟩
  | _, _, _, F, g, γ, σ, H, r, R, .nm (i := i) hv t, e => by
    unfold late at e
    split at e
    · rename_i d hd
      obtain ⟨ds, q, p⟩ := late_sound R t e
      refine ⟨_, q, .cons ?_ p⟩
      unfold sd at hd
      split at hd
      · rename_i d' hs
        cases hd
        obtain ⟨v', hv', ok⟩ := R.sl i _ hs
        rw [hv] at hv'
        cases hv'
        exact .dat ok
      · rename_i d' hs
        cases hd
        obtain ⟨v', hv', L, ws, rfl, gn, hL, rr⟩ := R.sl i _ hs
        rw [hv] at hv'
        cases hv'
        exact .own hL rr
      · rename_i ks d' hs
        cases hd
        obtain ⟨v', hv', L, ws, rfl, gn, hL, l, rr⟩ := R.sl i _ hs
        rw [hv] at hv'
        cases hv'
        exact .ownK hL l rr
      · cases hd
    · exact e.elim
  | _, _, _, F, g, γ, σ, H, r, R, .ex dv t, e => by
    unfold late at e
    obtain ⟨ds, q, p⟩ := late_sound R t e
    exact ⟨_, q, .cons (.dat dv) p⟩
abbrev Subs (W : Obs Ω) (g : Gh Ω) (H : Hp) : Prop := ∀ a o, g a = some o → Real W g H a o
/-- an operation on data -/
def OpD (K : PySem.W.Frag) (W : Obs Ω) (r : List V → Hp → VK → Prop) (f : List (Dat Ω) → (Dat Ω → Prop) → Prop) : Prop :=
  ∀ g H vs ds k Q, Subs W g H → PVs K g H vs ds → f ds k → (∀ z w g' H', k z → Grow W g H g' H' → DV K g' w z → Q w H') → r vs H Q
/-- .. that gives a new list -/
def OpF (K : PySem.W.Frag) (W : Obs Ω) (r : List V → Hp → VK → Prop) (f : List (Dat Ω) → (Dat Ω → Prop) → Prop) : Prop :=
  ∀ g H vs ds k Q, Subs W g H → PVs K g H vs ds → f ds k → (∀ zs ws L g1 H1, k (.lst zs) → Grow W g H g1 H1 → H1 L = none → DVs K g1 ws zs → Q (.ref L) (upd H1 L (.lst ws))) → r vs H Q
/-- a test -/
def OpT (K : PySem.W.Frag) (W : Obs Ω) (r : List V → Hp → (Bool → Hp → Prop) → Prop) (f : List (Dat Ω) → (Bool → Prop) → Prop) : Prop :=
  ∀ g H vs ds k Q, Subs W g H → PVs K g H vs ds → f ds k → (∀ z g' H', k z → Grow W g H g' H' → Q z H') → r vs H Q
theorem OpF.d {r : List V → Hp → VK → Prop} {f : List (Dat Ω) → (Dat Ω → Prop) → Prop} (h : OpF K W r f) : OpD K W r f := fun g H vs ds k Q s p e q =>
  h g H vs ds k Q s p e fun zs ws L g1 H1 hk G n r => by
    have G2 := Grow.dat (p := L) (o := .lst ws) G.sub n
    exact q _ _ _ _ hk (G.tr G2) (.lst gup_same (r.more G2.le))
section
variable {X : Cx} {e : Expr} {As : List (Opn Ω)} {r : List V → Hp → VK → Prop} {rb : List V → Hp → (Bool → Hp → Prop) → Prop} {f : List (Dat Ω) → (Dat Ω → Prop) → Prop} {fb : List (Dat Ω) → (Bool → Prop) → Prop} {T : DE Ω}
theorem pe_ops (hp : PE X e (fun σ H Q => upA K W As σ H fun vs H' => r vs H' Q)) (ho : OpD K W r f) : PE X e (up K W (tOps As f)) := PEc hp fun σ H Q ⟨F, g, γ, q, R, t, k⟩ =>
  ev_sound As R t fun os γ' g' vs H' l le R' tm => by
    obtain ⟨ds, hf, pv⟩ := late_sound R' tm l
    exact ho g' H' vs ds _ Q R'.sub pv hf fun z w g2 H2 hz G dv => k z γ' w H2 g2 hz (le.tr G.le) (R'.grow G) dv
theorem pf_ops (hp : PE X e (fun σ H Q => upA K W As σ H fun vs H' => r vs H' Q)) (ho : OpF K W r f) : PE X e (upF K W (tOps As f)) := PEc hp fun σ H Q ⟨F, g, γ, q, R, t, k⟩ =>
  ev_sound As R t fun os γ' g' vs H' l le R' tm => by
    obtain ⟨ds, hf, pv⟩ := late_sound R' tm l
    exact ho g' H' vs ds _ Q R'.sub pv hf fun zs ws L g2 H2 hz G n dvs => k zs γ' ws L H2 g2 hz (le.tr G.le) (R'.grow G) n dvs
theorem pt_ops (hp : PT X e (fun σ H Q => upA K W As σ H fun vs H' => rb vs H' Q)) (ho : OpT K W rb fb) : PT X e (upT K W (tOpsT As fb)) := PTc hp fun σ H Q ⟨F, g, γ, q, R, t, k⟩ =>
  ev_sound As R t fun os γ' g' vs H' l le R' tm => by
    obtain ⟨ds, hf, pv⟩ := late_sound R' tm l
    exact ho g' H' vs ds _ Q R'.sub pv hf fun z g2 H2 hz G => k z γ' H2 g2 hz (le.tr G.le) (R'.grow G)
theorem pf_pe (h : PE X e (upF K W T)) : PE X e (up K W T) := PEc h fun σ H Q ⟨F, g, γ, q, R, t, k⟩ => ⟨F, g, γ, q, R, t, fun zs γ' ws L H1 g1 hq le R1 n r => by
  have G2 := Grow.dat (p := L) (o := .lst ws) R1.sub n
  exact k _ γ' _ _ _ hq (le.tr G2.le) (R1.grow G2) (.lst gup_same (r.more G2.le))⟩
/-! ### names, constants -/
def tC' (d : Dat Ω) : DE Ω := fun γ q => q d γ
theorem pd_int {i j pos} : PE X (.Constant (.int i) j pos) (up K W (tC' (.int i))) := PEc pe_int fun σ H Q ⟨F, g, γ, q, R, t, k⟩ => k _ γ _ H g t (.refl g) R (.int i)
theorem pd_str {x j pos} : PE X (.Constant (.str x) j pos) (up K W (tC' (.str x))) := PEc pe_str fun σ H Q ⟨F, g, γ, q, R, t, k⟩ => k _ γ _ H g t (.refl g) R (.str x)
theorem pd_bl {b j pos} : PE X (.Constant (.bool b) j pos) (up K W (tC' (.bl b))) := PEc pe_bl fun σ H Q ⟨F, g, γ, q, R, t, k⟩ => k _ γ _ H g t (.refl g) R (.bl b)
theorem pd_non {j pos} : PE X (.Constant .none j pos) (up K W (tC' .non)) := PEc pe_non fun σ H Q ⟨F, g, γ, q, R, t, k⟩ => k _ γ _ H g t (.refl g) R .non
/-- a name's value, to be kept -/
def tN (i : Nat) : DE Ω := fun γ q => match γ[i]? with
  | some (some (.dat d)) => q d γ
  | some (some (.own ds)) => q (.lst ds) (γ.set i (some (.dat (.lst ds))))
  | _ => False
theorem pd_name {i : Nat} (h : PE X e (tVar i)) : PE X e (up K W (tN i)) := PEc h fun σ H Q ⟨F, g, γ, q, R, t, k⟩ => by
  unfold tN at t
  split at t
  · rename_i d hd
    obtain ⟨v, hv, ok⟩ := R.sl i _ hd
    exact ⟨v, hv, k _ γ _ H g t (.refl g) R ok⟩
  · rename_i ds hd
    obtain ⟨g', v, le, R', hv, dv⟩ := R.demote hd
    exact ⟨v, hv, k _ _ _ H g' t le R' dv⟩
  · exact t.elim
theorem po_name {i : Nat} (h : PE X e (tVar i)) : PE X e (upO K W (.nm i)) := h
theorem po_ex (h : PE X e (up K W T)) : PE X e (upO K W (.ex T)) := h
theorem pa0 : PA X [] (upA K W []) := pa_nil
theorem pa1 {A : Opn Ω} {es : List Expr} (h : PE X e (upO K W A)) (t : PA X es (upA K W As)) (hs : starEach (e :: es) X.env = (false, eval e X.env) :: starEach es X.env := by rfl) : PA X (e :: es) (upA K W (A :: As)) := pa_cons h t hs
end
end
end DL
set_option Elab.async false
set_option linter.all false
set_option maxRecDepth 100000
set_option maxHeartbeats 4000000
namespace DL
open PySem PySem.Spec PyProof.Rows L2 Nv
/-! ### tuples: whole slices, empty ones joined -/
theorem getItem_tuple_whole {prog : Program} {w : World} {A : Around} {E : Value → Shared → Prop} {s : Shared} {t sl : Addr} {items : Array Value} {vl vu : Value} {lo hi : Option Int} {Q : Value → Shared → Prop}
    (ht : IsTup s.heap t items) (hs : s.heap.IsSliceOf sl vl vu Value.none) (pl : IsPart vl lo) (pu : IsPart vu hi) (hw : HT.sIx items.size 0 lo = 0 ∧ HT.sIx items.size items.size hi = items.size) (h : Q (Value.ref t) s) :
    wpAny (model prog w) A (getItem (Value.ref t) (Value.ref sl)) Q E s := by
  obtain ⟨os, hos, hcs, hds⟩ := id hs
  have hTs : s.TypeIs (.ref sl) "slice" := ⟨os, hos, hcs⟩
  refine wpAny_holding (wpAny_bind (wpAny_sequenceKey ht.typeIs (of_decide_eq_true rfl) (wpAny_bind (wpAny_callSpecial?_slot ht.typeIs slot_tuple_getitem (wpAny_call_entry slot_tuple_getitem ht.typeIs entry_tuple_getitem ?_ (args_tuple_getitem _ _))))))
  show wpAny _ _ (Builtin.Tuple.tupleItemsOf _ >>= _) _ _ _
  refine wpAny_bind (tupleItemsOf_ ht (wpAny_bind (wpAny_typeOf hTs ?_)))
  rw [if_pos (of_decide_eq_true rfl)]
  refine wpAny_bind (HT.sliceApplied_gen hs pl pu ?_)
  show wpAny _ _ (if ((((HT.sIx items.size 0 lo : Nat) : Int) == 0 && (1 : Int) == 1 && (HT.sIx items.size items.size hi - HT.sIx items.size 0 lo == items.size)) = true) then _ else _) _ _ _
  rw [if_pos (by rw [hw.1, hw.2]; simp)]
  refine wpAny_bind ?_
  show wpAny _ _ (typeOf _ >>= _) _ _ _
  refine wpAny_bind (wpAny_typeOf ht.typeIs (wpAny_pure ?_))
  rw [if_pos (of_decide_eq_true rfl)]
  exact wpAny_bind (wpAny_rule (wpAny_pure ⟨_, rfl, wpAny_pure h⟩))
/-- a slice of a tuple, the whole one too -/
def rSlW (K : PySem.W.Frag) : V → Option Int → Option Int → Hp → VK → Prop := fun x lo hi H Q => ∃ a xs, x = .ref a ∧ SqT K H a xs ∧
  ((HT.sIx xs.length 0 lo = 0 ∧ HT.sIx xs.length xs.length hi = xs.length) → Q (.ref a) H) ∧ (¬ (HT.sIx xs.length 0 lo = 0 ∧ HT.sIx xs.length xs.length hi = xs.length) → ∀ p, H p = none → Q (.ref p) (upd H p (.tup (cutV xs lo hi))))
theorem sl_tupW {X : Cx} : SlR X (rSlW X.K) := by
  intro pins s σ H x v vl vu lo hi sl Q I rx hs pl pu h
  obtain ⟨a, xs, rfl, hx, q1, q2⟩ := h
  by_cases hw : HT.sIx xs.length 0 lo = 0 ∧ HT.sIx xs.length xs.length hi = xs.length
  · cases (show v = Value.ref a from rx)
    obtain ⟨its, r, ht, hz⟩ := Inv.tuple I hx
    have hlen : its.toArray.size = xs.length := by
      rw [List.size_toArray]
      exact (Vals.length r).symm
    exact ⟨"tuple", "tuple.__getitem__", slot_tuple_getitem.lookup, IsTup.typeIs ht, getItem_tuple_whole ht hs pl pu (by rw [hlen]; exact hw) ⟨.ref a, H, I, rfl, q1 hw⟩⟩
  · exact sl_tup pins s σ H _ v vl vu lo hi sl Q I rx hs pl pu ⟨a, xs, rfl, hx, hw, q2 hw⟩
/-- tuples joined, an empty one too -/
def rCatW (K : PySem.W.Frag) : R2 := fun x y H Q => ∃ a b xs ys, x = .ref a ∧ y = .ref b ∧ SqT K H a xs ∧ SqT K H b ys ∧ xs.length + ys.length ≤ sizeLine ∧ (xs = [] → Q (.ref b) H) ∧ (xs ≠ [] → ys = [] → Q (.ref a) H) ∧ (xs ≠ [] → ys ≠ [] → ∀ p, H p = none → Q (.ref p) (upd H p (.tup (xs ++ ys))))
theorem op_catW {X : Cx} : OpR X (binaryOp .Add) (rCatW X.K) := by
  intro pins s σ H x y v u Q I rx ry h
  obtain ⟨a, b, xs, ys, rfl, rfl, ha, hb, hz, q1, q2, q3⟩ := h
  by_cases hx : xs = []
  · subst hx
    cases (show v = Value.ref a from rx)
    cases (show u = Value.ref b from ry)
    obtain ⟨its, r1, ⟨⟨cls, dd, data, sl⟩, ho, hc, n, hd⟩, _⟩ := Inv.tuple I ha
    obtain ⟨its2, r2, ⟨⟨cls2, dd2, data2, sl2⟩, ho2, hc2, n2, hd2⟩, _⟩ := Inv.tuple I hb
    cases r1
    cases (show cls = .type "tuple" from hc)
    cases (show cls2 = .type "tuple" from hc2)
    cases (show data = _ from hd)
    cases (show data2 = _ from hd2)
    exact concat_meets ⟨_, ho, rfl⟩ ⟨_, ho2, rfl⟩ noFill_tuple_add seq_tuple_add F.slot_tuple_add F.entry_tuple_add (F.args_tuple_add_2 (Value.ref a) (Value.ref b)) (tuple_addW0 a b _ _ n n2 dd dd2 sl sl2 rfl) ⟨ho, ho2, .ref b, H, I, rfl, q1 rfl⟩
  · exact op_catT pins s σ H _ _ v u Q I rx ry ⟨a, b, xs, ys, rfl, rfl, ha, hb, hx, hz, q2 hx, q3 hx⟩

section
variable {Ω : Type} {K : PySem.W.Frag} {W : Obs Ω}
mutual
def py : Dat Ω → Option PyData
  | .non => some .none
  | .bl b => some (.bool b)
  | .int i => some (.int i)
  | .str s => some (.str s)
  | .lst ds => (pys ds).map PyData.list
  | .tup ds => (pys ds).map PyData.tuple
  | _ => none
termination_by structural d => d
def pys : List (Dat Ω) → Option (List PyData)
  | [] => some []
  | d :: ds => match py d, pys ds with
    | some p, some ps => some (p :: ps)
    | _, _ => none
termination_by structural d => d
end
theorem Real.ho {g : Gh Ω} {H : Hp} {a : Addr} {o : HO} (s : Subs W g H) (e : g a = some (.ho o)) (n : isDic o = false := by rfl) : H a = some o := by
  rcases s a _ e with h | ⟨d, _⟩
  · exact h
  · rw [n] at d
    cases d
theorem Real.rd {g : Gh Ω} {H : Hp} {a : Addr} {o : HO} (s : Subs W g H) (e : g a = some (.ho o)) : Rd H a o := by
  rcases s a _ e with h | ⟨d, ob, h⟩
  · exact .inl h
  · exact .inr ⟨ob, h⟩
theorem wrT {K : PySem.W.Frag} {H : Hp} {a : Addr} {xs : List V} (h : WrT K a xs) : SqT K H a xs := .inr h
mutual
theorem dv_dp {g : Gh Ω} {H : Hp} (s : Subs W g H) : ∀ {v : V} {d : Dat Ω} {p : PyData}, DV K g v d → py d = some p → Dp K H v p
  | _, _, _, .non, e => by cases e; exact .non
  | _, _, _, .bl b, e => by cases e; exact .bl b
  | _, _, _, .int i, e => by cases e; exact .int i
  | _, _, _, .str x, e => by cases e; exact .str x
  | _, _, _, .lst (ds := ds) h r, e => by
    unfold py at e
    cases h2 : pys ds with
    | none => rw [h2] at e; cases e
    | some ps =>
      rw [h2] at e
      cases e
      exact .lst (SqL.of (Real.ho s h)) (dvs_dp s r h2)
  | _, _, _, .tup (ds := ds) h r, e => by
    unfold py at e
    cases h2 : pys ds with
    | none => rw [h2] at e; cases e
    | some ps =>
      rw [h2] at e
      cases e
      exact .tup (SqT.of (Real.ho s h)) (dvs_dp s r h2)
  | _, _, _, .dK h l r, e => by cases e
  | _, _, _, .dT h l r, e => by cases e
  | _, _, _, .obj h, e => by cases e
theorem dvs_dp {g : Gh Ω} {H : Hp} (s : Subs W g H) : ∀ {vs : List V} {ds : List (Dat Ω)} {ps : List PyData}, DVs K g vs ds → pys ds = some ps → DpAll K H vs ps
  | _, _, _, .nil, e => by cases e; exact .nil
  | _, _, _, .cons (d := d) (ds := ds) h r, e => by
    unfold pys at e
    cases h1 : py d with
    | none => rw [h1] at e; cases e
    | some p =>
      cases h2 : pys ds with
      | none => rw [h1, h2] at e; cases e
      | some ps =>
        rw [h1, h2] at e
        cases e
        exact .cons (dv_dp s h h1) (dvs_dp s r h2)
end
theorem pv_dp {g : Gh Ω} {H : Hp} (s : Subs W g H) {v : V} {d : Dat Ω} {p : PyData} (h : PV K g H v d) (e : py d = some p) : Dp K H v p := by
  cases h with
  | dat h => exact dv_dp s h e
  | @own L vs ds h r =>
    unfold py at e
    cases h2 : pys ds with
    | none => rw [h2] at e; cases e
    | some ps =>
      rw [h2] at e
      cases e
      exact .lst (SqL.of h) (dvs_dp s r h2)
  | ownK h l r => cases e
theorem PV.int {g : Gh Ω} {H : Hp} {v : V} {i : Int} (h : PV K g H v (.int i)) : v = .int i := by
  cases h with
  | dat h => cases h; rfl
theorem PV.str {g : Gh Ω} {H : Hp} {v : V} {i : Str} (h : PV K g H v (.str i)) : v = .str i := by
  cases h with
  | dat h => cases h; rfl
theorem PV.bl {g : Gh Ω} {H : Hp} {v : V} {i : Bool} (h : PV K g H v (.bl i)) : v = .bl i := by
  cases h with
  | dat h => cases h; rfl
theorem PV.non {g : Gh Ω} {H : Hp} {v : V} (h : PV K g H v .non) : v = .non := by
  cases h with
  | dat h => cases h; rfl
theorem PV.lst {g : Gh Ω} {H : Hp} (s : Subs W g H) {v : V} {ds : List (Dat Ω)} (h : PV K g H v (.lst ds)) : ∃ a xs, v = .ref a ∧ H a = some (.lst xs) ∧ DVs K g xs ds := by
  cases h with
  | dat h =>
    cases h with
    | lst h r => exact ⟨_, _, rfl, Real.ho s h, r⟩
  | own h r => exact ⟨_, _, rfl, h, r⟩
theorem PV.tup {g : Gh Ω} {H : Hp} (s : Subs W g H) {v : V} {ds : List (Dat Ω)} (h : PV K g H v (.tup ds)) : ∃ a xs, v = .ref a ∧ SqT K H a xs ∧ DVs K g xs ds := by
  cases h with
  | dat h =>
    cases h with
    | tup h r => exact ⟨_, _, rfl, SqT.of (Real.ho s h), r⟩
theorem PV.dK {g : Gh Ω} {H : Hp} (s : Subs W g H) {v : V} {ks : List Key} {ds : List (Dat Ω)} (h : PV K g H v (.dK ks ds)) : ∃ a xs, v = .ref a ∧ Rd H a (.dK (ks.zip xs)) ∧ ks.length = xs.length ∧ DVs K g xs ds := by
  cases h with
  | dat h =>
    cases h with
    | dK h l r => exact ⟨_, _, rfl, Real.rd s h, l, r⟩
  | ownK h l r => exact ⟨_, _, rfl, .inl h, l, r⟩
/-- the value is not None -/
theorem PV.isN {g : Gh Ω} {H : Hp} {v : V} {d : Dat Ω} (h : PV K g H v d) : decide (v = .non) = (match d with | .non => true | _ => false) := by
  cases h with
  | dat h => cases h <;> rfl
  | own h r => rfl
  | ownK h l r => rfl
def r2v (r : R2) : List V → Hp → VK → Prop := fun vs H Q => match vs with
  | [x, y] => r x y H Q
  | _ => False
def r1v (r : V → Hp → VK → Prop) : List V → Hp → VK → Prop := fun vs H Q => match vs with
  | [x] => r x H Q
  | _ => False
theorem upO_mono {A : Opn Ω} {σ : L2.St} {H : Hp} {Q Q' : VK} (h : upO K W A σ H Q) (k : ∀ v H', Q v H' → Q' v H') : upO K W A σ H Q' := by
  cases A with
  | nm i =>
    obtain ⟨v, hv, q⟩ := h
    exact ⟨v, hv, k _ _ q⟩
  | ex T =>
    obtain ⟨F, g, γ, q, R, t, z⟩ := h
    exact ⟨F, g, γ, q, R, t, fun d γ' v H' g' a b c e => k _ _ (z d γ' v H' g' a b c e)⟩
section
variable {X : Cx} {a b c : Expr} {A B C : Opn Ω} {r : R2} {f : List (Dat Ω) → (Dat Ω → Prop) → Prop} {pos : Pos}
theorem pd_bin {op : Operator} (ho : OpR X (binaryOp op) r) (hd : OpD K W (r2v r) f) (ha : PE X a (upO K W A)) (hb : PE X b (upO K W B)) : PE X (.BinOp a op b pos) (up K W (tOps [A, B] f)) :=
  pe_ops (r := r2v r) (PEc (pe_op ho ha hb) fun _ _ _ h => h) hd
theorem pf_bin {op : Operator} (ho : OpR X (binaryOp op) r) (hd : OpF K W (r2v r) f) (ha : PE X a (upO K W A)) (hb : PE X b (upO K W B)) : PE X (.BinOp a op b pos) (upF K W (tOps [A, B] f)) :=
  pf_ops (r := r2v r) (PEc (pe_op ho ha hb) fun _ _ _ h => h) hd
theorem pd_un {op : UnaryOp} {r : V → Hp → VK → Prop} (ho : UnR X (unaryOp op) r) (hd : OpD K W (r1v r) f) (ha : PE X a (upO K W A)) : PE X (.UnaryOp op a pos) (up K W (tOps [A] f)) :=
  pe_ops (r := r1v r) (PEc (pe_un ho ha) fun _ _ _ h => h) hd
theorem pd_cmp {op : CmpOp} (ho : OpR X (compareOp op) r) (hd : OpD K W (r2v r) f) (ha : PE X a (upO K W A)) (hb : PE X b (upO K W B)) (hm : behindInMarks op b = false) : PE X (.Compare a [op] [b] pos) (up K W (tOps [A, B] f)) :=
  pe_ops (r := r2v r) (PEc (pe_cmpR ho ha hb hm) fun _ _ _ h => h) hd
/-- a value that is a bool, as a test -/
def tB' (T : DE Ω) : DT Ω := fun γ q => T γ fun d γ' => match d with
  | .bl b => q b γ'
  | _ => False
theorem ptest {e : Expr} {t : TE} {T : DE Ω} (h : PT X e (fun σ H Q => t σ H fun x H' => ∃ k, x = .bl k ∧ Q k H')) (k : ∀ σ H Q, up K W T σ H Q → t σ H Q) : PT X e (upT K W (tB' T)) := PTc h fun σ H Q ⟨F, g, γ, q, R, t, z⟩ => k _ _ _
  ⟨F, g, γ, _, R, t, fun d γ' v H' g' hq le R' dv => by
    cases dv with
    | bl b => exact ⟨b, rfl, z b γ' H' g' hq le R'⟩
    | _ => exact hq.elim⟩
theorem pt_v {e : Expr} {T : DE Ω} (h : PE X e (up K W T)) (he : ∀ whole, isTrue e X.env whole = (do let v ← whole; standAt e.pos; holding [v] (truthy v)) := by intro _; rfl) : PT X e (upT K W (tB' T)) := ptest (t := up K W T) (PTc (pt_val h he) fun _ _ _ h => h) fun _ _ _ h => h
theorem pt_c {op : CmpOp} {f : List (Dat Ω) → (Dat Ω → Prop) → Prop} (ho : OpR X (compareOp op) r) (hd : OpD K W (r2v r) f) (ha : PE X a (upO K W A)) (hb : PE X b (upO K W B)) (hm : behindInMarks op b = false) : PT X (.Compare a [op] [b] pos) (upT K W (tB' (tOps [A, B] f))) :=
  ptest (t := tOp r (upO K W A) (upO K W B)) (PTc (pt_cmpR ho ha hb hm) fun _ _ _ h => h) fun σ H Q ⟨F, g, γ, q, R, t, k⟩ =>
    (ev_sound [A, B] R t fun os γ' g' vs H' l le R' tm => by
      obtain ⟨ds, hf, pv⟩ := late_sound R' tm l
      exact hd g' H' vs ds _ Q R'.sub pv hf fun z w g2 H2 hz G dv => k z γ' w H2 g2 hz (le.tr G.le) (R'.grow G) dv : upA K W [A, B] σ H fun vs H' => r2v r vs H' Q)
def dAnd (t u : DT Ω) : DT Ω := fun γ q => t γ fun c γ1 => if c = true then u γ1 q else q false γ1
def dOr (t u : DT Ω) : DT Ω := fun γ q => t γ fun c γ1 => if c = true then q true γ1 else u γ1 q
def dNot (t : DT Ω) : DT Ω := fun γ q => t γ fun c γ1 => q (!c) γ1
variable {rest : List Expr} {t u : DT Ω} {T U : DE Ω}
theorem pwd_and1 (ha : PT X a (upT K W t)) : PW X (.BoolOp .And [a] pos) (upT K W t) := pw_and1 ha
theorem pwd_or1 (ha : PT X a (upT K W t)) : PW X (.BoolOp .Or [a] pos) (upT K W t) := pw_or1 ha
theorem pwd_and (ha : PT X a (upT K W t)) (hb : PW X (.BoolOp .And (b :: rest) pos) (upT K W u)) : PW X (.BoolOp .And (a :: b :: rest) pos) (upT K W (dAnd t u)) := PWc (pw_and ha hb) fun σ H Q ⟨F, g, γ, q, R, e, k⟩ =>
  ⟨F, g, γ, _, R, e, fun c γ' H' g' hq le R' => by
    cases c with
    | true => exact ⟨F, g', γ', _, R', hq, fun d γ2 H2 g2 hq2 le2 R2 => k d γ2 H2 g2 hq2 (le.tr le2) R2⟩
    | false => exact k _ γ' H' g' hq le R'⟩
theorem pwd_or (ha : PT X a (upT K W t)) (hb : PW X (.BoolOp .Or (b :: rest) pos) (upT K W u)) : PW X (.BoolOp .Or (a :: b :: rest) pos) (upT K W (dOr t u)) := PWc (pw_or ha hb) fun σ H Q ⟨F, g, γ, q, R, e, k⟩ =>
  ⟨F, g, γ, _, R, e, fun c γ' H' g' hq le R' => by
    cases c with
    | false => exact ⟨F, g', γ', _, R', hq, fun d γ2 H2 g2 hq2 le2 R2 => k d γ2 H2 g2 hq2 (le.tr le2) R2⟩
    | true => exact k _ γ' H' g' hq le R'⟩
theorem ptd_not (ha : PT X a (upT K W t)) : PT X (.UnaryOp .Not a pos) (upT K W (dNot t)) := PTc (pt_not ha) fun σ H Q ⟨F, g, γ, q, R, e, k⟩ => ⟨F, g, γ, _, R, e, fun c γ' H' g' hq le R' => k _ γ' H' g' hq le R'⟩
def dIf (t : DT Ω) (T U : DE Ω) : DE Ω := fun γ q => t γ fun c γ1 => if c = true then T γ1 q else U γ1 q
theorem pd_if (hc : PT X c (upT K W t)) (ha : PE X a (up K W T)) (hb : PE X b (up K W U)) : PE X (.IfExp c a b pos) (up K W (dIf t T U)) := PEc (pe_ifExp hc ha hb) fun σ H Q ⟨F, g, γ, q, R, e, k⟩ =>
  ⟨F, g, γ, _, R, e, fun c γ' H' g' hq le R' => by
    cases c with
    | true => exact ⟨F, g', γ', _, R', hq, fun d γ2 v H2 g2 hq2 le2 R2 dv => k d γ2 v H2 g2 hq2 (le.tr le2) R2 dv⟩
    | false => exact ⟨F, g', γ', _, R', hq, fun d γ2 v H2 g2 hq2 le2 R2 dv => k d γ2 v H2 g2 hq2 (le.tr le2) R2 dv⟩⟩
/-- values that are bools: and, or, not -/
def vAnd (T U : DE Ω) : DE Ω := fun γ q => T γ fun d γ1 => match d with
  | .bl true => U γ1 q
  | .bl false => q (.bl false) γ1
  | _ => False
def vOr (T U : DE Ω) : DE Ω := fun γ q => T γ fun d γ1 => match d with
  | .bl true => q (.bl true) γ1
  | .bl false => U γ1 q
  | _ => False
def vNot (T : DE Ω) : DE Ω := fun γ q => T γ fun d γ1 => match d with
  | .bl k => q (.bl (!k)) γ1
  | _ => False
theorem pd_one {op} (h : PE X a (up K W T)) : PE X (.BoolOp op [a] pos) (up K W T) := pe_one h
theorem pd_and (ha : PE X a (up K W T)) (hb : PE X (.BoolOp .And (b :: rest) pos) (up K W U)) : PE X (.BoolOp .And (a :: b :: rest) pos) (up K W (vAnd T U)) := PEc (pe_and ha hb) fun σ H Q ⟨F, g, γ, q, R, e, k⟩ =>
  ⟨F, g, γ, _, R, e, fun d γ' v H' g' hq le R' dv => by
    cases dv with
    | bl c =>
      refine ⟨c, rfl, ?_⟩
      cases c with
      | true => exact ⟨F, g', γ', _, R', hq, fun d γ2 v H2 g2 hq2 le2 R2 dv => k d γ2 v H2 g2 hq2 (le.tr le2) R2 dv⟩
      | false => exact k _ γ' _ H' g' hq le R' (.bl false)
    | _ => exact hq.elim⟩
theorem pd_or (ha : PE X a (up K W T)) (hb : PE X (.BoolOp .Or (b :: rest) pos) (up K W U)) : PE X (.BoolOp .Or (a :: b :: rest) pos) (up K W (vOr T U)) := PEc (pe_or ha hb) fun σ H Q ⟨F, g, γ, q, R, e, k⟩ =>
  ⟨F, g, γ, _, R, e, fun d γ' v H' g' hq le R' dv => by
    cases dv with
    | bl c =>
      refine ⟨c, rfl, ?_⟩
      cases c with
      | false => exact ⟨F, g', γ', _, R', hq, fun d γ2 v H2 g2 hq2 le2 R2 dv => k d γ2 v H2 g2 hq2 (le.tr le2) R2 dv⟩
      | true => exact k _ γ' _ H' g' hq le R' (.bl true)
    | _ => exact hq.elim⟩
theorem pd_not (ha : PE X a (up K W T)) : PE X (.UnaryOp .Not a pos) (up K W (vNot T)) := PEc (pe_not ha) fun σ H Q ⟨F, g, γ, q, R, e, k⟩ =>
  ⟨F, g, γ, _, R, e, fun d γ' v H' g' hq le R' dv => by
    cases dv with
    | bl c => exact ⟨c, rfl, k _ γ' _ H' g' hq le R' (.bl _)⟩
    | _ => exact hq.elim⟩
end
end
end DL
set_option Elab.async false
set_option linter.all false
set_option maxRecDepth 100000
set_option maxHeartbeats 4000000
namespace DL
open PySem PySem.Spec PyProof.Rows L2 Nv
section
variable {Ω : Type} {K : PySem.W.Frag} {W : Obs Ω}
abbrev FD (Ω : Type) := List (Dat Ω) → (Dat Ω → Prop) → Prop
theorem Grow.rf {g : Gh Ω} {H : Hp} (s : Subs W g H) : Grow W g H g H := .refl s
/-- an object that is new, as data -/
theorem fin_new {g : Gh Ω} {H : Hp} {k : Dat Ω → Prop} {Q : VK} {z : Dat Ω} {p : Addr} {o : HO} (s : Subs W g H) (q : ∀ z w g' H', k z → Grow W g H g' H' → DV K g' w z → Q w H') (hk : k z) (n : H p = none) (dv : ∀ g', Le g g' → g' p = some (.ho o) → DV K g' (.ref p) z) : Q (.ref p) (upd H p o) := by
  have G := Grow.dat (o := o) s n
  exact q z _ _ _ hk G (dv _ G.le gup_same)
/-! ### + - * // % ** -/
def fAdd : FD Ω
  | [.int i, .int j], k => k (.int (i + j))
  | [.str s, .str t], k => s.length + t.length ≤ sizeLine ∧ k (.str (s ++ t))
  | [.lst a, .lst b], k => a.length + b.length ≤ sizeLine ∧ k (.lst (a ++ b))
  | [.tup a, .tup b], k => a.length + b.length ≤ sizeLine ∧ k (.tup (a ++ b))
  | _, _ => False
def rAddA (K : PySem.W.Frag) : R2 := fun x y H Q => (∃ i j, x = .int i ∧ y = .int j ∧ Q (.int (i + j)) H) ∨ (∃ i j, x = .str i ∧ y = .str j ∧ i.length + j.length ≤ sizeLine ∧ Q (.str (i ++ j)) H) ∨ rCat x y H Q ∨ rCatW K x y H Q
theorem op_addA {X : Cx} : OpR X (binaryOp .Add) (rAddA X.K) := OpR.or op_add (OpR.or op_add_str (OpR.or op_cat op_catW))
theorem od_add : OpD K W (r2v (rAddA K)) fAdd := by
  intro g H vs ds k Q s p e q
  unfold fAdd at e
  split at e
  · rename_i i j
    cases p with | cons p1 p => cases p with | cons p2 p => cases p; cases p1.int; cases p2.int; exact .inl ⟨i, j, rfl, rfl, q _ _ _ _ e (.refl s) (.int _)⟩
  · rename_i a b
    cases p with | cons p1 p => cases p with | cons p2 p => cases p; cases p1.str; cases p2.str; exact .inr (.inl ⟨a, b, rfl, rfl, e.1, q _ _ _ _ e.2 (.refl s) (.str _)⟩)
  · rename_i a b
    cases p with
    | cons p1 p =>
      cases p with
      | cons p2 p =>
        cases p
        obtain ⟨L, xs, rfl, hL, r1⟩ := p1.lst s
        obtain ⟨M, ys, rfl, hM, r2⟩ := p2.lst s
        exact .inr (.inr (.inl ⟨L, M, xs, ys, rfl, rfl, hL, hM, by rw [r1.length, r2.length]; exact e.1, fun p n => fin_new s q e.2 n fun g' le h => .lst h ((r1.append r2).more le)⟩))
  · rename_i a b
    cases p with
    | cons p1 p =>
      cases p with
      | cons p2 p =>
        cases p
        cases p1 with
        | dat p1 =>
          cases p2 with
          | dat p2 =>
            obtain ⟨L, xs, e1, hL, r1⟩ := (PV.dat (H := H) p1).tup s
            obtain ⟨M, ys, e2, hM, r2⟩ := (PV.dat (H := H) p2).tup s
            subst e1 e2
            refine .inr (.inr (.inr ⟨L, M, xs, ys, rfl, rfl, hL, hM, by rw [r1.length, r2.length]; exact e.1, fun z => ?_, fun z z2 => ?_, fun z z2 p n => fin_new s q e.2 n fun g' le h => .tup h ((r1.append r2).more le)⟩))
            · subst z
              cases r1
              exact q _ _ _ _ e.2 (.refl s) p2
            · subst z2
              cases r2
              refine q _ _ _ _ e.2 (.refl s) ?_
              rw [List.append_nil]
              exact p1
  · exact e.elim
/-- a new list: + of lists -/
def fCat : FD Ω
  | [.lst a, .lst b], k => a.length + b.length ≤ sizeLine ∧ k (.lst (a ++ b))
  | _, _ => False
theorem of_cat : OpF K W (r2v rCat) fCat := by
  intro g H vs ds k Q s p e q
  unfold fCat at e
  split at e
  · rename_i a b
    cases p with
    | cons p1 p =>
      cases p with
      | cons p2 p =>
        cases p
        obtain ⟨L, xs, rfl, hL, r1⟩ := p1.lst s
        obtain ⟨M, ys, rfl, hM, r2⟩ := p2.lst s
        exact ⟨L, M, xs, ys, rfl, rfl, hL, hM, by rw [r1.length, r2.length]; exact e.1, fun p n => q _ _ _ _ _ e.2 (.refl s) n (r1.append r2)⟩
  · exact e.elim
/-- ints, under a condition -/
def fI2 (C : Int → Int → Prop) (h : Int → Int → Int) : FD Ω
  | [.int i, .int j], k => C i j ∧ k (.int (h i j))
  | _, _ => False
theorem od_I2 {C : Int → Int → Prop} {h : Int → Int → Int} : OpD K W (r2v (rI C fun i j => .int (h i j))) (fI2 C h) := by
  intro g H vs ds k Q s p e q
  unfold fI2 at e
  split at e
  · rename_i i j
    cases p with | cons p1 p => cases p with | cons p2 p => cases p; cases p1.int; cases p2.int; exact ⟨i, j, rfl, rfl, e.1, q _ _ _ _ e.2 (.refl s) (.int _)⟩
  · exact e.elim
def fI20 (h : Int → Int → Int) : FD Ω
  | [.int i, .int j], k => k (.int (h i j))
  | _, _ => False
theorem od_I20 {h : Int → Int → Int} : OpD K W (r2v (rI0 fun i j => .int (h i j))) (fI20 h) := by
  intro g H vs ds k Q s p e q
  unfold fI20 at e
  split at e
  · rename_i i j
    cases p with | cons p1 p => cases p with | cons p2 p => cases p; cases p1.int; cases p2.int; exact ⟨i, j, rfl, rfl, q _ _ _ _ e (.refl s) (.int _)⟩
  · exact e.elim
def fB20 (h : Int → Int → Bool) : FD Ω
  | [.int i, .int j], k => k (.bl (h i j))
  | _, _ => False
theorem od_B20 {h : Int → Int → Bool} : OpD K W (r2v (rI0 fun i j => .bl (h i j))) (fB20 h) := by
  intro g H vs ds k Q s p e q
  unfold fB20 at e
  split at e
  · rename_i i j
    cases p with | cons p1 p => cases p with | cons p2 p => cases p; cases p1.int; cases p2.int; exact ⟨i, j, rfl, rfl, q _ _ _ _ e (.refl s) (.bl _)⟩
  · exact e.elim
def fNeg : FD Ω
  | [.int i], k => k (.int (-i))
  | _, _ => False
theorem od_neg : OpD K W (r1v (rU fun i => .int (-i))) fNeg := by
  intro g H vs ds k Q s p e q
  unfold fNeg at e
  split at e
  · rename_i i
    cases p with | cons p1 p => cases p; cases p1.int; exact ⟨i, rfl, q _ _ _ _ e (.refl s) (.int _)⟩
  · exact e.elim
/-! ### == != in -/
def eqK (neg : Bool) (x y : Dat Ω) (k : Dat Ω → Prop) : Prop := ∃ a b, py x = some a ∧ py y = some b ∧ SeqAt.shaped a = true ∧ SeqAt.shaped b = true ∧ k (.bl (if neg then !PyData.eqv a b else PyData.eqv a b))
def fEq : FD Ω
  | [.int i, .int j], k => k (.bl (decide (i = j)))
  | [.str i, .str j], k => k (.bl (decide (i = j)))
  | [x, y], k => eqK false x y k
  | _, _ => False
def fNe : FD Ω
  | [.int i, .int j], k => k (.bl (!decide (i = j)))
  | [.str i, .str j], k => k (.bl (!decide (i = j)))
  | [x, y], k => eqK true x y k
  | _, _ => False
theorem dI {i j : Int} : decide (V.int i = V.int j) = decide (i = j) := by
  by_cases h : i = j
  · rw [decide_eq_true h, decide_eq_true (by rw [h])]
  · rw [decide_eq_false h, decide_eq_false fun z => h (V.int.inj z)]
theorem dS {i j : Str} : decide (V.str i = V.str j) = decide (i = j) := by
  by_cases h : i = j
  · rw [decide_eq_true h, decide_eq_true (by rw [h])]
  · rw [decide_eq_false h, decide_eq_false fun z => h (V.str.inj z)]
def rEqA (K : PySem.W.Frag) : R2 := fun x y H Q => rEq x y H Q ∨ rEqD K x y H Q
def rNeA (K : PySem.W.Frag) : R2 := fun x y H Q => rNe x y H Q ∨ rNeD K x y H Q
theorem op_eqA {X : Cx} (hu : X.A.units + 64 < cLine) : OpR X (compareOp .Eq) (rEqA X.K) := OpR.or op_eq (op_eqD hu)
theorem op_neA {X : Cx} (hu : X.A.units + 64 < cLine) : OpR X (compareOp .NotEq) (rNeA X.K) := OpR.or op_ne (op_neD hu)
theorem od_eq : OpD K W (r2v (rEqA K)) fEq := by
  intro g H vs ds k Q s p e q
  unfold fEq at e
  split at e
  · rename_i i j
    cases p with | cons p1 p => cases p with | cons p2 p => cases p; cases p1.int; cases p2.int; exact .inl ⟨rfl, by rw [dI]; exact q _ _ _ _ e (.refl s) (.bl _)⟩
  · rename_i i j
    cases p with | cons p1 p => cases p with | cons p2 p => cases p; cases p1.str; cases p2.str; exact .inl ⟨rfl, by rw [dS]; exact q _ _ _ _ e (.refl s) (.bl _)⟩
  · rename_i x y _ _
    obtain ⟨a, b, ea, eb, e⟩ := e
    cases p with | cons p1 p => cases p with | cons p2 p => cases p; exact .inr ⟨a, b, pv_dp s p1 ea, pv_dp s p2 eb, e.1, e.2.1, q _ _ _ _ e.2.2 (.refl s) (.bl _)⟩
  · exact e.elim
theorem od_ne : OpD K W (r2v (rNeA K)) fNe := by
  intro g H vs ds k Q s p e q
  unfold fNe at e
  split at e
  · rename_i i j
    cases p with | cons p1 p => cases p with | cons p2 p => cases p; cases p1.int; cases p2.int; exact .inl ⟨rfl, by rw [dI]; exact q _ _ _ _ e (.refl s) (.bl _)⟩
  · rename_i i j
    cases p with | cons p1 p => cases p with | cons p2 p => cases p; cases p1.str; cases p2.str; exact .inl ⟨rfl, by rw [dS]; exact q _ _ _ _ e (.refl s) (.bl _)⟩
  · rename_i x y _ _
    obtain ⟨a, b, ea, eb, e⟩ := e
    cases p with | cons p1 p => cases p with | cons p2 p => cases p; exact .inr ⟨a, b, pv_dp s p1 ea, pv_dp s p2 eb, e.1, e.2.1, q _ _ _ _ e.2.2 (.refl s) (.bl _)⟩
  · exact e.elim
/-- x in xs, xs a list of data -/
def fInL (neg : Bool) : FD Ω
  | [x, .lst ds], k => ∃ a bs, py x = some a ∧ pys ds = some bs ∧ SeqAt.shaped a = true ∧ SeqAt.shaped (.list bs) = true ∧ k (.bl (if neg then !bs.any (fun z => PyData.eqv z a) else bs.any (fun z => PyData.eqv z a)))
  | _, _ => False
theorem pv_dpl {g : Gh Ω} {H : Hp} (s : Subs W g H) {v : V} {ds : List (Dat Ω)} {ps : List PyData} (h : PV K g H v (.lst ds)) (e : pys ds = some ps) : Dp K H v (.list ps) := pv_dp s h (by unfold py; rw [e]; rfl)
theorem od_inL : OpD K W (r2v (rInD K)) (fInL false) := by
  intro g H vs ds k Q s p e q
  unfold fInL at e
  split at e
  · rename_i x ds
    obtain ⟨a, bs, ea, eb, e⟩ := e
    cases p with | cons p1 p => cases p with | cons p2 p => cases p; exact ⟨a, bs, pv_dp s p1 ea, pv_dpl s p2 eb, e.1, e.2.1, q _ _ _ _ e.2.2 (.refl s) (.bl _)⟩
  · exact e.elim
theorem od_ninL : OpD K W (r2v (rNotInD K)) (fInL true) := by
  intro g H vs ds k Q s p e q
  unfold fInL at e
  split at e
  · rename_i x ds
    obtain ⟨a, bs, ea, eb, e⟩ := e
    cases p with | cons p1 p => cases p with | cons p2 p => cases p; exact ⟨a, bs, pv_dp s p1 ea, pv_dpl s p2 eb, e.1, e.2.1, q _ _ _ _ e.2.2 (.refl s) (.bl _)⟩
  · exact e.elim
/-- is None, is not None -/
def isNon : Dat Ω → Bool
  | .non => true
  | _ => false
def fIsN (neg : Bool) : FD Ω
  | [x, .non], k => k (.bl (if neg then !isNon x else isNon x))
  | _, _ => False
theorem isN_eq {g : Gh Ω} {H : Hp} {v : V} {d : Dat Ω} (h : PV K g H v d) : decide (v = .non) = isNon d := by
  cases h with
  | dat h => cases h <;> rfl
  | own h r => rfl
  | ownK h l r => rfl
def rIsN : R2 := fun x y H Q => y = .non ∧ Q (.bl (decide (x = .non))) H
def rNotN : R2 := fun x y H Q => y = .non ∧ Q (.bl (!decide (x = .non))) H
theorem op_isN' {X : Cx} : OpR X (compareOp .Is) rIsN := op_isN
theorem op_notN' {X : Cx} : OpR X (compareOp .IsNot) rNotN := op_notN
theorem od_isN : OpD K W (r2v rIsN) (fIsN false) := by
  intro g H vs ds k Q s p e q
  unfold fIsN at e
  split at e
  · cases p with | cons p1 p => cases p with | cons p2 p => cases p; cases p2.non; exact ⟨rfl, by rw [isN_eq p1]; exact q _ _ _ _ e (.refl s) (.bl _)⟩
  · exact e.elim
theorem od_notN : OpD K W (r2v rNotN) (fIsN true) := by
  intro g H vs ds k Q s p e q
  unfold fIsN at e
  split at e
  · cases p with | cons p1 p => cases p with | cons p2 p => cases p; cases p2.non; exact ⟨rfl, by rw [isN_eq p1]; exact q _ _ _ _ e (.refl s) (.bl _)⟩
  · exact e.elim
/-! ### x[i] -/
def fIx : FD Ω
  | [.lst ds, .int i], k => ∃ d, atI ds i = some d ∧ k d
  | [.tup ds, .int i], k => ∃ d, atI ds i = some d ∧ k d
  | [.str z, .int i], k => z.length ≤ sizeLine ∧ ∃ c, atI z.cps.toList i = some c ∧ k (.str ⟨#[c]⟩)
  | _, _ => False
theorem dvs_atI {g : Gh Ω} {vs : List V} {ds : List (Dat Ω)} (r : DVs K g vs ds) {i : Int} {d : Dat Ω} (e : atI ds i = some d) : ∃ v, atI vs i = some v ∧ DV K g v d := by
  unfold atI at e ⊢
  rw [r.length]
  cases h : ixN ds.length i with
  | none => rw [h] at e; cases e
  | some j =>
    rw [h] at e
    exact r.at' j d e
def rIxA (K : PySem.W.Frag) : R2 := fun x y H Q => rIxL K x y H Q ∨ rIxT K x y H Q ∨ rIxS x y H Q
theorem ix_A {X : Cx} : IxR X (rIxA X.K) := IxR.or ix_list (IxR.or ix_tup ix_str)
theorem od_ix : OpD K W (r2v (rIxA K)) fIx := by
  intro g H vs ds k Q s p e q
  unfold fIx at e
  split at e
  · rename_i ds i
    obtain ⟨d, hd, e⟩ := e
    cases p with
    | cons p1 p =>
      cases p with
      | cons p2 p =>
        cases p
        cases p2.int
        obtain ⟨a, xs, rfl, ha, r⟩ := p1.lst s
        obtain ⟨v, hv, dv⟩ := dvs_atI r hd
        exact .inl ⟨a, xs, i, v, rfl, rfl, SqL.of ha, hv, q _ _ _ _ e (.refl s) dv⟩
  · rename_i ds i
    obtain ⟨d, hd, e⟩ := e
    cases p with
    | cons p1 p =>
      cases p with
      | cons p2 p =>
        cases p
        cases p2.int
        obtain ⟨a, xs, rfl, ha, r⟩ := p1.tup s
        obtain ⟨v, hv, dv⟩ := dvs_atI r hd
        exact .inr (.inl ⟨a, xs, i, v, rfl, rfl, ha, hv, q _ _ _ _ e (.refl s) dv⟩)
  · rename_i z i
    obtain ⟨e1, c, hc, e⟩ := e
    cases p with | cons p1 p => cases p with | cons p2 p => cases p; cases p1.str; cases p2.int; exact .inr (.inr ⟨z, i, c, rfl, rfl, e1, hc, q _ _ _ _ e (.refl s) (.str _)⟩)
  · exact e.elim
theorem pd_ix {X : Cx} {r : R2} {f : FD Ω} {a b : Expr} {A B : Opn Ω} {pos : Pos} (hr : IxR X r) (hd : OpD K W (r2v r) f) (ha : PE X a (upO K W A)) (hb : PE X b (upO K W B)) (hs : PlainIx b := by exact fun _ _ => rfl) : PE X (.Subscript a b pos) (up K W (tOps [A, B] f)) :=
  pe_ops (r := r2v r) (PEc (pe_ix hr ha hb hs) fun _ _ _ h => h) hd
/-! ### slices -/
def cutD (xs : List (Dat Ω)) (lo hi : Option Int) : List (Dat Ω) := (xs.drop (HT.sIx xs.length 0 lo)).take (HT.sIx xs.length xs.length hi - HT.sIx xs.length 0 lo)
theorem cut_dvs {g : Gh Ω} {vs : List V} {ds : List (Dat Ω)} (r : DVs K g vs ds) (lo hi : Option Int) : DVs K g (cutV vs lo hi) (cutD ds lo hi) := by
  unfold cutV cutD
  rw [r.length]
  exact (r.drop _).take _
def slK (x : Dat Ω) (lo hi : Option Int) (k : Dat Ω → Prop) : Prop := match x with
  | .lst ds => k (.lst (cutD ds lo hi))
  | .tup ds => k (.tup (cutD ds lo hi))
  | .str z => z.length ≤ sizeLine ∧ k (.str (cutS z lo hi))
  | _ => False
def rSlA (K : PySem.W.Frag) : V → Option Int → Option Int → Hp → VK → Prop := fun x lo hi H Q => rSlL K x lo hi H Q ∨ rSlW K x lo hi H Q ∨ rSlS x lo hi H Q
theorem sl_A {X : Cx} : SlR X (rSlA X.K) := SlR.or sl_list (SlR.or sl_tupW sl_str)
theorem sl_sound {g : Gh Ω} {H : Hp} {v : V} {x : Dat Ω} {lo hi : Option Int} {k : Dat Ω → Prop} {Q : VK} (s : Subs W g H) (p : PV K g H v x) (e : slK x lo hi k) (q : ∀ z w g' H', k z → Grow W g H g' H' → DV K g' w z → Q w H') : rSlA K v lo hi H Q := by
  unfold slK at e
  split at e
  · rename_i ds
    obtain ⟨a, xs, rfl, ha, r⟩ := p.lst s
    exact .inl ⟨a, xs, rfl, SqL.of ha, fun p n => fin_new s q e n fun g' le h => .lst h ((cut_dvs r lo hi).more le)⟩
  · rename_i ds
    cases p with
    | dat p1 =>
      obtain ⟨a, xs, e1, ha, r⟩ := (PV.dat (H := H) p1).tup s
      subst e1
      refine .inr (.inl ⟨a, xs, rfl, ha, fun hw => ?_, fun hw p n => fin_new s q e n fun g' le h => .tup h ((cut_dvs r lo hi).more le)⟩)
      refine q _ _ _ _ e (.refl s) ?_
      have : cutD ds lo hi = ds := by
        unfold cutD
        rw [← r.length, hw.1, hw.2, List.drop_zero, Nat.sub_zero, r.length, List.take_length]
      rw [this]
      exact p1
  · rename_i z
    cases p.str
    exact .inr (.inr ⟨z, rfl, e.1, q _ _ _ _ e.2 (.refl s) (.str _)⟩)
  · exact e.elim
def fSl2 : FD Ω
  | [x, .int i, .int j], k => slK x (some i) (some j) k
  | _, _ => False
def fSlL : FD Ω
  | [x, .int i], k => slK x (some i) none k
  | _, _ => False
def fSlH : FD Ω
  | [x, .int j], k => slK x none (some j) k
  | _, _ => False
def fSl0 : FD Ω
  | [x], k => slK x none none k
  | _, _ => False
section
variable {X : Cx} {a b c : Expr} {A B C : Opn Ω} {pos p2 : Pos}
theorem pd_slL (ha : PE X a (upO K W A)) (hb : PE X b (upO K W B)) (hK : X.K = K := by rfl) : PE X (.Subscript a (.Slice (some b) none none p2) pos) (up K W (tOps [A, B] fSlL)) := by
  subst hK
  refine pe_ops (r := fun vs H Q => ∃ x i, vs = [x, .int i] ∧ rSlA X.K x (some i) none H Q) (PEc (pe_slice sl_A ha (po_some hb) po_none) fun σ H Q h => ?_) ?_
  · exact upO_mono h fun x H1 h1 => upO_mono h1 fun y H2 ⟨x', i, e, r⟩ => by
      cases e
      exact ⟨i, rfl, r⟩
  · intro g H vs ds k Q s p e q
    unfold fSlL at e
    split at e
    · cases p with | cons p1 p => cases p with | cons p2 p => cases p; cases p2.int; exact ⟨_, _, rfl, sl_sound s p1 e q⟩
    · exact e.elim
theorem pd_slH (ha : PE X a (upO K W A)) (hb : PE X b (upO K W B)) (hK : X.K = K := by rfl) : PE X (.Subscript a (.Slice none (some b) none p2) pos) (up K W (tOps [A, B] fSlH)) := by
  subst hK
  refine pe_ops (r := fun vs H Q => ∃ x i, vs = [x, .int i] ∧ rSlA X.K x none (some i) H Q) (PEc (pe_slice sl_A ha po_none (po_some hb)) fun σ H Q h => ?_) ?_
  · exact upO_mono h fun x H1 h1 => upO_mono h1 fun y H2 ⟨x', i, e, r⟩ => by
      cases e
      exact ⟨i, rfl, r⟩
  · intro g H vs ds k Q s p e q
    unfold fSlH at e
    split at e
    · cases p with | cons p1 p => cases p with | cons p2 p => cases p; cases p2.int; exact ⟨_, _, rfl, sl_sound s p1 e q⟩
    · exact e.elim
end
end
end DL
set_option Elab.async false
set_option linter.all false
set_option maxRecDepth 100000
set_option maxHeartbeats 4000000
namespace DL
open PySem PySem.Spec PyProof.Rows L2 Nv
section
variable {Ω : Type} {K : PySem.W.Frag} {W : Obs Ω}
/-! ### what is kept: items of displays, arguments -/
def upK (K : PySem.W.Frag) (W : Obs Ω) : List (DE Ω) → TA
  | [] => tNil
  | T :: Ts => tCons (up K W T) (upK K W Ts)
def evK : List (DE Ω) → Gam Ω → (List (Dat Ω) → Gam Ω → Prop) → Prop
  | [], γ, r => r [] γ
  | T :: Ts, γ, r => T γ fun d γ1 => evK Ts γ1 fun ds γ' => r (d :: ds) γ'
def tKs (Ts : List (DE Ω)) (f : FD Ω) : DE Ω := fun γ q => evK Ts γ fun ds γ' => f ds fun z => q z γ'
theorem evK_sound : ∀ (Ts : List (DE Ω)) {F : Hp} {g : Gh Ω} {γ : Gam Ω} {σ : L2.St} {H : Hp} {r : List (Dat Ω) → Gam Ω → Prop} {Q : List V → Hp → Prop}, Rep K W F g γ σ H → evK Ts γ r →
    (∀ ds γ' g' vs H', r ds γ' → Le g g' → Rep K W F g' γ' σ H' → DVs K g' vs ds → Q vs H') → upK K W Ts σ H Q
  | [], F, g, γ, σ, H, r, Q, R, e, k => k [] γ g [] H e (.refl g) R .nil
  | T :: Ts, F, g, γ, σ, H, r, Q, R, e, k => ⟨F, g, γ, _, R, e, fun d γ' v H' g' q le R' dv => evK_sound Ts R' q fun ds γ2 g2 vs H2 q2 le2 R2 t => k _ _ _ _ _ q2 (le.tr le2) R2 (.cons (dv.more le2) t)⟩
def OpK (K : PySem.W.Frag) (W : Obs Ω) (r : List V → Hp → VK → Prop) (f : FD Ω) : Prop :=
  ∀ g H vs ds k Q, Subs W g H → DVs K g vs ds → f ds k → (∀ z w g' H', k z → Grow W g H g' H' → DV K g' w z → Q w H') → r vs H Q
def OpKF (K : PySem.W.Frag) (W : Obs Ω) (r : List V → Hp → VK → Prop) (f : FD Ω) : Prop :=
  ∀ g H vs ds k Q, Subs W g H → DVs K g vs ds → f ds k → (∀ zs ws L g1 H1, k (.lst zs) → Grow W g H g1 H1 → H1 L = none → DVs K g1 ws zs → Q (.ref L) (upd H1 L (.lst ws))) → r vs H Q
section
variable {X : Cx} {e : Expr} {es : List Expr} {T : DE Ω} {Ts : List (DE Ω)} {r : List V → Hp → VK → Prop} {f : FD Ω} {pos : Pos} {k1 : Nat}
theorem pk0 : PA X [] (upK K W []) := pa_nil
theorem pk1 (h : PE X e (up K W T)) (t : PA X es (upK K W Ts)) (hs : starEach (e :: es) X.env = (false, eval e X.env) :: starEach es X.env := by rfl) : PA X (e :: es) (upK K W (T :: Ts)) := pa_cons h t hs
theorem pe_ks (hp : PE X e (fun σ H Q => upK K W Ts σ H fun vs H' => r vs H' Q)) (ho : OpK K W r f) : PE X e (up K W (tKs Ts f)) := PEc hp fun σ H Q ⟨F, g, γ, q, R, t, k⟩ =>
  evK_sound Ts R t fun ds γ' g' vs H' hf le R' dvs => ho g' H' vs ds _ Q R'.sub dvs hf fun z w g2 H2 hz G dv => k z γ' w H2 g2 hz (le.tr G.le) (R'.grow G) dv
theorem pf_ks (hp : PE X e (fun σ H Q => upK K W Ts σ H fun vs H' => r vs H' Q)) (ho : OpKF K W r f) : PE X e (upF K W (tKs Ts f)) := PEc hp fun σ H Q ⟨F, g, γ, q, R, t, k⟩ =>
  evK_sound Ts R t fun ds γ' g' vs H' hf le R' dvs => ho g' H' vs ds _ Q R'.sub dvs hf fun zs ws L g2 H2 hz G n d => k zs γ' ws L H2 g2 hz (le.tr G.le) (R'.grow G) n d
/-! ### displays -/
def fLst : FD Ω := fun ds k => ds.length ≤ sizeLine ∧ k (.lst ds)
def fTup : FD Ω := fun ds k => ds.length ≤ sizeLine ∧ k (.tup ds)
def rLst : List V → Hp → VK → Prop := fun xs H Q => xs.length ≤ sizeLine ∧ ∀ p, H p = none → Q (.ref p) (upd H p (.lst xs))
def rTup : List V → Hp → VK → Prop := fun xs H Q => xs.length ≤ sizeLine ∧ ∀ p, H p = none → Q (.ref p) (upd H p (.tup xs))
theorem pf_lst (h : PA X es (upK K W Ts)) : PE X (.List es pos) (upF K W (tKs Ts fLst)) :=
  pf_ks (r := rLst) (PEc (pe_lst h) fun _ _ _ h => h) fun g H vs ds k Q s d e q => ⟨by rw [d.length]; exact e.1, fun p n => q ds vs p g H e.2 (.refl s) n d⟩
theorem pd_lst (h : PA X es (upK K W Ts)) : PE X (.List es pos) (up K W (tKs Ts fLst)) := pf_pe (pf_lst h)
theorem pd_tup (h : PA X es (upK K W Ts)) : PE X (.Tuple es k1 pos) (up K W (tKs Ts fTup)) :=
  pe_ks (r := rTup) (PEc (pe_tup h) fun _ _ _ h => h) fun g H vs ds k Q s d e q => ⟨by rw [d.length]; exact e.1, fun p n => fin_new s q e.2 n fun g' le h => .tup h (d.more le)⟩
end
/-! ### statements -/
structure EndsD (Ω : Type) where
  nx : Gam Ω → Prop
  rt : Dat Ω → Gam Ω → Prop
  bk : Gam Ω → Prop := fun _ => False
  ct : Gam Ω → Prop := fun _ => False
abbrev DS (Ω : Type) := EndsD Ω → Gam Ω → Prop
structure Fits (K : PySem.W.Frag) (W : Obs Ω) (F : Hp) (g : Gh Ω) (E : EndsD Ω) (D : Ends) : Prop where
  nx : ∀ γ' σ' H' g', E.nx γ' → Le g g' → Rep K W F g' γ' σ' H' → D.nx σ' H'
  rt : ∀ d γ' v σ' H' g', E.rt d γ' → Le g g' → Rep K W F g' γ' σ' H' → DV K g' v d → D.rt v H'
  bk : ∀ γ' σ' H' g', E.bk γ' → Le g g' → Rep K W F g' γ' σ' H' → D.bk σ' H'
  ct : ∀ γ' σ' H' g', E.ct γ' → Le g g' → Rep K W F g' γ' σ' H' → D.ct σ' H'
theorem Fits.mono {F : Hp} {g g' : Gh Ω} {E : EndsD Ω} {D : Ends} (f : Fits K W F g E D) (le : Le g g') : Fits K W F g' E D :=
  ⟨fun a b c d e l r => f.nx a b c d e (le.tr l) r, fun a b c d e h i l r => f.rt a b c d e h i (le.tr l) r, fun a b c d e l r => f.bk a b c d e (le.tr l) r, fun a b c d e l r => f.ct a b c d e (le.tr l) r⟩
def upS (K : PySem.W.Frag) (W : Obs Ω) (T : DS Ω) : TS := fun D σ H => ∃ F g γ E, Rep K W F g γ σ H ∧ T E γ ∧ Fits K W F g E D
section
variable {X : Cx} {st : Stmt} {rest : List Stmt} {S U : DS Ω} {e : Expr} {T : DE Ω} {t : DT Ω} {pos : Pos}
def dNext : DS Ω := fun D γ => D.nx γ
def dSeq (S U : DS Ω) : DS Ω := fun D γ => S { D with nx := U D } γ
theorem sd0 : PSs X [] (upS K W dNext) := PSsc pss_nil fun D σ H ⟨F, g, γ, E, R, t, f⟩ => f.nx γ σ H g t (.refl g) R
theorem sdc (h1 : PS X st (upS K W S)) (h2 : PSs X rest (upS K W U)) : PSs X (st :: rest) (upS K W (dSeq S U)) := PSsc (pss_cons h1 h2) fun D σ H ⟨F, g, γ, E, R, t, f⟩ =>
  ⟨F, g, γ, _, R, t, fun γ' σ' H' g' hn le R' => ⟨F, g', γ', E, R', hn, f.mono le⟩, f.rt, f.bk, f.ct⟩
theorem sd1 (h1 : PS X st (upS K W S)) : PSs X [st] (upS K W S) := pss_one h1
theorem ds_pass : PS X (.Pass pos) (upS K W dNext) := PSc ps_pass fun D σ H ⟨F, g, γ, E, R, t, f⟩ => f.nx γ σ H g t (.refl g) R
theorem ds_break : PS X (.Break pos) (upS K W fun D γ => D.bk γ) := PSc ps_break fun D σ H ⟨F, g, γ, E, R, t, f⟩ => f.bk γ σ H g t (.refl g) R
theorem ds_cont : PS X (.Continue pos) (upS K W fun D γ => D.ct γ) := PSc ps_continue fun D σ H ⟨F, g, γ, E, R, t, f⟩ => f.ct γ σ H g t (.refl g) R
def dRet (T : DE Ω) : DS Ω := fun D γ => T γ D.rt
theorem ds_ret (h : PE X e (up K W T)) : PS X (.Return (some e) pos) (upS K W (dRet T)) := PSc (ps_ret h) fun D σ H ⟨F, g, γ, E, R, t, f⟩ =>
  ⟨F, g, γ, E.rt, R, t, fun d γ' v H' g' hq le R' dv => f.rt d γ' v σ H' g' hq le R' dv⟩
theorem ds_retN : PS X (.Return none pos) (upS K W fun D γ => D.rt .non γ) := PSc ps_retN fun D σ H ⟨F, g, γ, E, R, t, f⟩ => f.rt .non γ .non σ H g t (.refl g) R .non
def dDrop (T : DE Ω) : DS Ω := fun D γ => T γ fun _ γ' => D.nx γ'
theorem ds_expr (h : PE X e (up K W T)) (hs : swapsWith e none pos.line X.env = pure false := by rfl) : PS X (.Expr e pos) (upS K W (dDrop T)) := PSc (ps_expr h hs) fun D σ H ⟨F, g, γ, E, R, t, f⟩ =>
  ⟨F, g, γ, _, R, t, fun d γ' v H' g' hq le R' dv => f.nx γ' σ H' g' hq le R'⟩
def dIfS (t : DT Ω) (S U : DS Ω) : DS Ω := fun D γ => t γ fun c γ1 => if c = true then S D γ1 else U D γ1
theorem ds_if {c : Expr} {a b : List Stmt} (hc : PT X c (upT K W t)) (ha : PSs X a (upS K W S)) (hb : PSs X b (upS K W U)) : PS X (.If c a b pos) (upS K W (dIfS t S U)) := PSc (ps_if hc ha hb) fun D σ H ⟨F, g, γ, E, R, t, f⟩ =>
  ⟨F, g, γ, _, R, t, fun c γ' H' g' hq le R' => by
    cases c with
    | true => exact ⟨F, g', γ', E, R', hq, f.mono le⟩
    | false => exact ⟨F, g', γ', E, R', hq, f.mono le⟩⟩
/-! targets -/
abbrev DG (Ω : Type) := Dat Ω → Gam Ω → (Gam Ω → Prop) → Prop
/-- σ' is σ but for slots of ix -/
def But (ix : List Nat) (σ σ' : L2.St) : Prop := σ'.length = σ.length ∧ ∀ i, i ∉ ix → σ'[i]? = σ[i]?
theorem But.refl {ix : List Nat} {σ : L2.St} : But ix σ σ := ⟨rfl, fun _ _ => rfl⟩
theorem But.tr {a b : List Nat} {σ σ1 σ2 : L2.St} (h : But a σ σ1) (k : But b σ1 σ2) : But (a ++ b) σ σ2 := ⟨k.1.trans h.1, fun i n => (k.2 i fun z => n (List.mem_append_right _ z)).trans (h.2 i fun z => n (List.mem_append_left _ z))⟩
def upG (K : PySem.W.Frag) (W : Obs Ω) (ix : List Nat) (G : DG Ω) : TG := fun v σ H Q => ∃ F g γ d q, Rep K W F g γ σ H ∧ DV K g v d ∧ G d γ q ∧ ∀ γ' σ' H' g', q γ' → But ix σ σ' → Le g g' → Rep K W F g' γ' σ' H' → Q σ' H'
abbrev DGs (Ω : Type) := List (Dat Ω) → Gam Ω → (Gam Ω → Prop) → Prop
def upGs (K : PySem.W.Frag) (W : Obs Ω) (ix : List Nat) (G : DGs Ω) : TGs := fun vs σ H Q => ∃ F g γ ds q, Rep K W F g γ σ H ∧ DVs K g vs ds ∧ G ds γ q ∧ ∀ γ' σ' H' g', q γ' → But ix σ σ' → Le g g' → Rep K W F g' γ' σ' H' → Q σ' H'
theorem PGc {X : Cx} {e : Expr} {t t' : TG} (h : PG X e t) (k : ∀ v σ H Q, t' v σ H Q → t v σ H Q) : PG X e t' := ⟨fun pins s σ H v u Q I r q => h.run pins s σ H v u Q I r (k v σ H Q q)⟩
theorem PGsc {X : Cx} {e : List Expr} {t t' : TGs} (h : PGs X e t) (k : ∀ v σ H Q, t' v σ H Q → t v σ H Q) : PGs X e t' := ⟨fun pins s σ H v u Q I r q => h.run pins s σ H v u Q I r (k v σ H Q q)⟩
def gN (i : Nat) : DG Ω := fun d γ q => q (γ.set i (some (.dat d)))
theorem gd_name {tg : Expr} {i : Nat} (h : PG X tg (gName i)) : PG X tg (upG K W [i] (gN i)) := PGc h fun v σ H Q ⟨F, g, γ, d, q, R, dv, t, k⟩ => k _ _ H g t ⟨List.length_set, fun j n => List.getElem?_set_ne (fun z => n (by rw [z]; exact List.mem_cons_self))⟩ (.refl g) (R.setD i dv)
def gs0 : DGs Ω := fun ds γ q => match ds with
  | [] => q γ
  | _ => False
def gsC (G : DG Ω) (Gs : DGs Ω) : DGs Ω := fun ds γ q => match ds with
  | d :: r => G d γ fun γ' => Gs r γ' q
  | [] => False
theorem gsd0 : PGs X [] (upGs K W [] gs0) := PGsc pgs_nil fun v σ H Q ⟨F, g, γ, d, q, R, dv, t, k⟩ => by
  cases dv with
  | nil => exact ⟨rfl, k _ _ H g t .refl (.refl g) R⟩
  | cons h r => exact t.elim
theorem gsd1 {ix jx : List Nat} {G : DG Ω} {Gs : DGs Ω} {es : List Expr} (h1 : PG X e (upG K W ix G)) (h2 : PGs X es (upGs K W jx Gs)) (hs : (assignEach (e :: es) X.env).map (·.2) = assign e X.env :: (assignEach es X.env).map (·.2) := by rfl) : PGs X (e :: es) (upGs K W (ix ++ jx) (gsC G Gs)) :=
  PGsc (pgs_cons h1 h2 hs) fun v σ H Q ⟨F, g, γ, d, q, R, dv, t, k⟩ => by
    cases dv with
    | nil => exact t.elim
    | cons h r => exact ⟨_, _, rfl, F, g, γ, _, _, R, h, t, fun γ' σ' H' g' hq bu le R' => ⟨F, g', γ', _, q, R', r.more le, hq, fun γ2 σ2 H2 g2 a bu2 b c => k γ2 σ2 H2 g2 a (bu.tr bu2) (le.tr b) c⟩⟩
def gT (Gs : DGs Ω) : DG Ω := fun d γ q => match d with
  | .tup ds => Gs ds γ q
  | _ => False
theorem gd_tup {ix : List Nat} {es : List Expr} {n : Nat} {Gs : DGs Ω} {k1 : Nat} (h : PG X (.Tuple es k1 pos) (gTup X.K n (upGs K W ix Gs))) (hl : ∀ ds γ q, Gs ds γ q → ds.length = n) (hK : X.K = K := by rfl) : PG X (.Tuple es k1 pos) (upG K W ix (gT Gs)) := by
  subst hK
  refine PGc h fun v σ H Q ⟨F, g, γ, d, q, R, dv, t, k⟩ => ?_
  unfold gT at t
  split at t
  · rename_i ds
    obtain ⟨a, xs, e1, hq, r⟩ := (PV.dat (H := H) dv).tup R.sub
    exact ⟨a, xs, e1, hq, by rw [r.length]; exact hl _ _ _ t, F, g, γ, ds, q, R, r, t, k⟩
  · exact t.elim
theorem gsLen0 : ∀ (ds : List (Dat Ω)) γ q, gs0 ds γ q → ds.length = 0 := fun ds γ q h => by
  cases ds with
  | nil => rfl
  | cons _ _ => exact h.elim
theorem gsLenC {G : DG Ω} {Gs : DGs Ω} {n : Nat} (mono : ∀ d γ q, G d γ q → ∃ γ', q γ') (h : ∀ ds γ q, Gs ds γ q → ds.length = n) : ∀ (ds : List (Dat Ω)) γ q, gsC G Gs ds γ q → ds.length = n + 1 := fun ds γ q e => by
  cases ds with
  | nil => exact e.elim
  | cons d r =>
    obtain ⟨γ', z⟩ := mono d γ _ e
    rw [List.length_cons, h _ _ _ z]
theorem gN_mono {i : Nat} : ∀ (d : Dat Ω) γ q, gN i d γ q → ∃ γ', q γ' := fun d γ q h => ⟨_, h⟩
theorem gT_mono {Gs : DGs Ω} (h : ∀ ds γ q, Gs ds γ q → ∃ γ', q γ') : ∀ (d : Dat Ω) γ q, gT Gs d γ q → ∃ γ', q γ' := fun d γ q e => by
  unfold gT at e
  split at e
  · exact h _ _ _ e
  · exact e.elim
theorem gs0_mono : ∀ (ds : List (Dat Ω)) γ q, gs0 ds γ q → ∃ γ', q γ' := fun ds γ q h => by
  cases ds with
  | nil => exact ⟨_, h⟩
  | cons _ _ => exact h.elim
theorem gsC_mono {G : DG Ω} {Gs : DGs Ω} (m : ∀ d γ q, G d γ q → ∃ γ', q γ') (h : ∀ ds γ q, Gs ds γ q → ∃ γ', q γ') : ∀ (ds : List (Dat Ω)) γ q, gsC G Gs ds γ q → ∃ γ', q γ' := fun ds γ q e => by
  cases ds with
  | nil => exact e.elim
  | cons d r =>
    obtain ⟨γ', z⟩ := m d γ _ e
    exact h _ _ _ z
/-! stores -/
def dAsg (T : DE Ω) (G : DG Ω) : DS Ω := fun D γ => T γ fun d γ' => G d γ' D.nx
theorem ds_asg {ix : List Nat} {G : DG Ω} (h : PS X st (tAsg (up K W T) (upG K W ix G))) : PS X st (upS K W (dAsg T G)) := PSc h fun D σ H ⟨F, g, γ, E, R, t, f⟩ =>
  ⟨F, g, γ, _, R, t, fun d γ' v H' g' hq le R' dv => ⟨F, g', γ', d, _, R', dv, hq, fun γ2 σ2 H2 g2 a _ b c => f.nx γ2 σ2 H2 g2 a (le.tr b) c⟩⟩
def dSet (i : Nat) (T : DE Ω) : DS Ω := fun D γ => T γ fun d γ' => D.nx (γ'.set i (some (.dat d)))
theorem ds_set {i : Nat} (h : PS X st (tAsg (up K W T) (gName i))) : PS X st (upS K W (dSet i T)) := PSc h fun D σ H ⟨F, g, γ, E, R, t, f⟩ =>
  ⟨F, g, γ, _, R, t, fun d γ' v H' g' hq le R' dv => f.nx _ _ H' g' hq le (R'.setD i dv)⟩
/-- the new list is the name's own -/
def dSetF (i : Nat) (T : DE Ω) : DS Ω := fun D γ => T γ fun d γ' => match d with
  | .lst zs => D.nx (γ'.set i (some (.own zs)))
  | _ => False
theorem Rep.setNew {F : Hp} {g : Gh Ω} {γ : Gam Ω} {σ : L2.St} {H : Hp} (R : Rep K W F g γ σ H) (i : Nat) {L : Addr} {ws : List V} {zs : List (Dat Ω)} (n : H L = none) (r : DVs K g ws zs) : Rep K W F g (γ.set i (some (.own zs))) (σ.set i (some (.ref L))) (upd H L (.lst ws)) := by
  have G : Grow W g H g (upd H L (.lst ws)) := Grow.own R.sub n
  have gn : g L = none := gnone R.sub n
  refine (R.grow G).set i (s := .own zs) ⟨L, ws, rfl, gn, upd_same, r⟩ fun _ L' e => ?_
  cases e
  refine ⟨?_, fun j t e ot ej => ?_⟩
  · cases e : F L with
    | none => rfl
    | some u =>
      have := (R.fr L u e).1
      rw [n] at this
      cases this
  · obtain ⟨v, hv, ok⟩ := R.sl j t e
    rw [ej] at hv
    cases hv
    cases t with
    | dat d => cases ot
    | raw w => cases ot
    | own ds =>
      obtain ⟨L2, vs, e2, _, h2, _⟩ := ok
      cases e2
      rw [n] at h2
      cases h2
    | ownK ks ds =>
      obtain ⟨L2, vs, e2, _, h2, _⟩ := ok
      cases e2
      rw [n] at h2
      cases h2
    | box p m =>
      obtain ⟨e2, _, b0, b1, b2, h2, _⟩ := ok
      cases e2
      rw [n] at h2
      cases h2
theorem ds_setF {i : Nat} (h : PS X st (tAsg (upF K W T) (gName i))) : PS X st (upS K W (dSetF i T)) := PSc h fun D σ H ⟨F, g, γ, E, R, t, f⟩ =>
  ⟨F, g, γ, _, R, t, fun zs γ' ws L H1 g1 hq le R1 n r => f.nx _ _ _ g1 hq le (R1.setNew i n r)⟩
/-- a, b = x, y -/
def dPar (i j : Nat) (T U : DE Ω) : DS Ω := fun D γ => T γ fun d γ1 => U γ1 fun e γ2 => D.nx ((γ2.set i (some (.dat d))).set j (some (.dat e)))
theorem ds_par {i j : Nat} {U : DE Ω} (h : PS X st (tPar i j (upK K W [T, U]))) : PS X st (upS K W (dPar i j T U)) := PSc h fun D σ H ⟨F, g, γ, E, R, t, f⟩ =>
  evK_sound [T, U] R (r := fun ds γ' => match ds with
    | [d, e] => E.nx ((γ'.set i (some (.dat d))).set j (some (.dat e)))
    | _ => False) t fun ds γ' g' vs H' hq le R' dvs => by
    cases dvs with
    | nil => exact hq.elim
    | cons h1 r1 =>
      cases r1 with
      | nil => exact hq.elim
      | cons h2 r2 =>
        cases r2 with
        | nil => exact ⟨_, _, rfl, f.nx _ _ H' g' hq le ((R'.setD i h1).setD j h2)⟩
        | cons _ _ => exact hq.elim
end
end
end DL
set_option Elab.async false
set_option linter.all false
set_option maxRecDepth 100000
set_option maxHeartbeats 4000000
namespace DL
open PySem PySem.Spec PyProof.Rows L2 Nv
section
variable {Ω : Type} {K : PySem.W.Frag} {W : Obs Ω}
/-! ### owned things that change -/
theorem Rep.mut {F : Hp} {g : Gh Ω} {γ : Gam Ω} {σ : L2.St} {H : Hp} (R : Rep K W F g γ σ H) {i : Nat} {s s' : Sl Ω} {L : Addr} {o : HO} (e : γ[i]? = some (some s)) (os : s.owned = true) (ev : σ[i]? = some (some (.ref L))) (gn : g L = none)
    (ok : SlOk K g (upd H L o) (.ref L) s') : Rep K W F g (γ.set i (some s')) σ (upd H L o) := by
  have hl : i < γ.length := (List.getElem?_eq_some_iff.mp e).1
  have kp : ∀ a, a ≠ L → upd H L o a = H a := fun a h => upd_ne h
  refine ⟨by rw [List.length_set]; exact R.len, fun j t ej => ?_, fun a b s1 t L' ne ha hb o1 ot va vb => ?_, fun a u ea => ?_, fun a u ea => ?_, fun j t L' ej ot vj => ?_⟩
  · by_cases hj : i = j
    · subst hj
      rw [List.getElem?_set_self hl] at ej
      cases ej
      exact ⟨_, ev, ok⟩
    · rw [List.getElem?_set_ne hj] at ej
      obtain ⟨u, h1, h2⟩ := R.sl j t ej
      refine ⟨u, h1, ?_⟩
      cases t with
      | dat d => exact h2
      | own es =>
        obtain ⟨L2, ws, rfl, n2, e2, r2⟩ := h2
        have ne : L2 ≠ L := fun z => R.apart i j _ _ L hj e ej os rfl ev (by rw [h1, z])
        exact ⟨L2, ws, rfl, n2, by rw [kp _ ne]; exact e2, r2⟩
      | ownK ks es =>
        obtain ⟨L2, ws, rfl, n2, e2, l2, r2⟩ := h2
        have ne : L2 ≠ L := fun z => R.apart i j _ _ L hj e ej os rfl ev (by rw [h1, z])
        exact ⟨L2, ws, rfl, n2, by rw [kp _ ne]; exact e2, l2, r2⟩
      | box p m =>
        obtain ⟨rfl, n2, b0, b1, b2, hb, q⟩ := h2
        have ne : p ≠ L := fun z => R.apart i j _ _ L hj e ej os rfl ev (by rw [h1, z])
        exact ⟨rfl, n2, b0, b1, b2, by rw [kp _ ne]; exact hb, q⟩
      | raw w => exact h2
  · have fa : ∃ s0, γ[a]? = some (some s0) ∧ s0.owned = true := by
      by_cases z : i = a
      · subst z
        exact ⟨s, e, os⟩
      · rw [List.getElem?_set_ne z] at ha
        exact ⟨_, ha, o1⟩
    have fb : ∃ s0, γ[b]? = some (some s0) ∧ s0.owned = true := by
      by_cases z : i = b
      · subst z
        exact ⟨s, e, os⟩
      · rw [List.getElem?_set_ne z] at hb
        exact ⟨_, hb, ot⟩
    obtain ⟨sa, ea, oa⟩ := fa
    obtain ⟨sb, eb, ob⟩ := fb
    exact R.apart a b sa sb L' ne ea eb oa ob va vb
  · have ne : a ≠ L := fun z => by rw [z, gn] at ea; cases ea
    exact (R.sub a u ea).mono (.refl g) fun o' q => by rw [kp _ ne]; exact q
  · obtain ⟨h1, h2⟩ := R.fr a u ea
    have ne : a ≠ L := fun z => by
      have := R.fo i _ L e os ev
      rw [z, this] at ea
      cases ea
    exact ⟨by rw [kp _ ne]; exact h1, h2⟩
  · by_cases z : i = j
    · subst z
      exact R.fo i s L' e os vj
    · rw [List.getElem?_set_ne z] at ej
      exact R.fo j t L' ej ot vj
section
variable {X : Cx} {st : Stmt} {e o : Expr} {T : DE Ω} {pos apos cpos : Pos}
/-- x.append(e) -/
def dApp (i : Nat) (T : DE Ω) : DS Ω := fun D γ => match γ[i]? with
  | some (some (.own _)) => T γ fun d γ' => (match γ'[i]? with
    | some (some (.own ds)) => ds.length < sizeLine ∧ D.nx (γ'.set i (some (.own (ds ++ [d]))))
    | _ => False)
  | _ => False
theorem ds_app {i : Nat} (h : PS X st (tDrop (tBM X.K "list" rAppend (tVar i) (upK K W [T])))) : PS X st (upS K W (dApp i T)) := PSc h fun D σ H ⟨F, g, γ, E, R, t, f⟩ => by
  unfold dApp at t
  split at t
  · rename_i d0 h0
    obtain ⟨v, hv, L, vs, rfl, gn, hL, r⟩ := R.sl i _ h0
    refine ⟨_, hv, .inl ⟨rfl, _, SqL.of hL⟩, F, g, γ, _, R, t, fun d γ' y H' g' hq le R' dv => ?_⟩
    split at hq
    · rename_i ds h1
      obtain ⟨v', hv', L', ws, rfl, gn', hL', r'⟩ := R'.sl i _ h1
      rw [hv] at hv'
      cases hv'
      refine ⟨L, ws, y, rfl, rfl, hL', by rw [r'.length]; exact hq.1, ?_⟩
      exact f.nx _ _ _ g' hq.2 le (R'.mut h1 rfl hv gn' (s' := .own (ds ++ [d])) ⟨L, ws ++ [y], rfl, gn', upd_same, r'.append (.cons dv .nil)⟩)
    · exact hq.elim
  · exact t.elim
end
/-! ### what is walked -/
abbrev DI (Ω : Type) := Gam Ω → (List (Dat Ω) → Gam Ω → Prop) → Prop
structure WalkD (K : PySem.W.Frag) (W : Obs Ω) (g : Gh Ω) (J : It) (ds : List (Dat Ω)) : Prop where
  go : ∀ (i : Nat) (d : Dat Ω) g2 H, ds[i]? = some d → Le g g2 → Subs W g2 H → J.go i H ∧ ∀ x H', J.yld i H x H' → ∃ g3, Grow W g2 H g3 H' ∧ DV K g3 x d
  stop : ∀ (i : Nat) g2 H, ds.length ≤ i → Le g g2 → Subs W g2 H → J.stop i H
def upI (K : PySem.W.Frag) (W : Obs Ω) (T : DI Ω) : TI := fun σ H R => ∃ F g γ q, Rep K W F g γ σ H ∧ T γ q ∧ ∀ ds γ' H' g' J, q ds γ' → Le g g' → Rep K W F g' γ' σ H' → WalkD K W g' J ds → R J H'
theorem PIc {X : Cx} {tg it : Expr} {t t' : TI} (h : PI X tg it t) (k : ∀ σ H R, t' σ H R → t σ H R) : PI X tg it t' := ⟨fun pins s σ H R I q => h.run pins s σ H R I (k σ H R q)⟩
section
variable {X : Cx} {tg it e : Expr} {T U : DE Ω} {pos p : Pos}
def iL (T : DE Ω) : DI Ω := fun γ q => T γ fun d γ' => match d with
  | .lst ds => q ds γ'
  | _ => False
def iT (T : DE Ω) : DI Ω := fun γ q => T γ fun d γ' => match d with
  | .tup ds => q ds γ'
  | _ => False
theorem walk_L {g : Gh Ω} {a : Addr} {xs : List V} {ds : List (Dat Ω)} (h : g a = some (.ho (.lst xs))) (r : DVs K g xs ds) : WalkD K W g (Itl K a) ds where
  go := fun i d g2 H hi le s => by
    have hH : H a = some (.lst xs) := Real.ho s (le _ _ h)
    obtain ⟨v, hv, dv⟩ := r.at' i d hi
    refine ⟨⟨xs, v, SqL.of hH, hv⟩, fun x H' ⟨e, y⟩ => ?_⟩
    subst e
    have := y xs (SqL.of hH)
    rw [hv] at this
    cases this
    exact ⟨g2, .refl s, dv.more le⟩
  stop := fun i g2 H hi le s => ⟨xs, SqL.of (Real.ho s (le _ _ h)), by rw [r.length]; exact hi⟩
theorem walk_T {g : Gh Ω} {a : Addr} {xs : List V} {ds : List (Dat Ω)} (h : ∀ g2 H, Le g g2 → Subs W g2 H → SqT K H a xs) (r : DVs K g xs ds) : WalkD K W g (Itt K a) ds where
  go := fun i d g2 H hi le s => by
    have hH := h g2 H le s
    obtain ⟨v, hv, dv⟩ := r.at' i d hi
    refine ⟨⟨xs, v, hH, hv⟩, fun x H' ⟨e, y⟩ => ?_⟩
    subst e
    have := y xs hH
    rw [hv] at this
    cases this
    exact ⟨g2, .refl s, dv.more le⟩
  stop := fun i g2 H hi le s => ⟨xs, h g2 H le s, by rw [r.length]; exact hi⟩
theorem id_L (h : PE X e (up K W T)) (hK : X.K = K := by rfl) : PI X tg e (upI K W (iL T)) := by
  subst hK
  refine PIc (pi_list h) fun σ H R ⟨F, g, γ, q, Rp, t, k⟩ => ⟨F, g, γ, _, Rp, t, fun d γ' v H' g' hq le R' dv => ?_⟩
  cases dv with
  | lst h r => exact ⟨_, rfl, ⟨_, SqL.of (Real.ho R'.sub h)⟩, k _ γ' H' g' _ hq le R' (walk_L h r)⟩
  | _ => exact hq.elim
theorem id_T (h : PE X e (up K W T)) (hK : X.K = K := by rfl) : PI X tg e (upI K W (iT T)) := by
  subst hK
  refine PIc (pi_tup h) fun σ H R ⟨F, g, γ, q, Rp, t, k⟩ => ⟨F, g, γ, _, Rp, t, fun d γ' v H' g' hq le R' dv => ?_⟩
  cases dv with
  | tup h r => exact ⟨_, rfl, ⟨_, SqT.of (Real.ho R'.sub h)⟩, k _ γ' H' g' _ hq le R' (walk_T (fun g2 H2 l s => SqT.of (Real.ho s (l _ _ h))) r)⟩
  | _ => exact hq.elim
def rngD (lo : Int) (n : Nat) : List (Dat Ω) := (List.range n).map fun (i : Nat) => .int (lo + (i : Int))
theorem rngD_at {lo : Int} {n i : Nat} {d : Dat Ω} (h : (rngD lo n)[i]? = some d) : i < n ∧ d = .int (lo + i) := by
  unfold rngD at h
  rw [List.getElem?_map] at h
  by_cases hi : i < n
  · rw [List.getElem?_range hi] at h
    exact ⟨hi, (Option.some.inj h).symm⟩
  · rw [List.getElem?_eq_none (by rw [List.length_range]; omega)] at h
    cases h
theorem rngD_len {lo : Int} {n : Nat} : (rngD (Ω := Ω) lo n).length = n := by
  unfold rngD
  rw [List.length_map, List.length_range]
theorem walk_R {g : Gh Ω} {lo : Int} {n : Nat} : WalkD K W g (Itr lo n) (rngD lo n) where
  go := fun i d g2 H hi le s => by
    obtain ⟨h1, rfl⟩ := rngD_at hi
    refine ⟨h1, fun x H' ⟨e, y⟩ => ?_⟩
    subst e y
    exact ⟨g2, .refl s, .int _⟩
  stop := fun i g2 H hi le s => by
    rw [rngD_len] at hi
    exact hi
def iR1 (T : DE Ω) : DI Ω := fun γ q => T γ fun d γ' => match d with
  | .int n => (-(2 ^ 62) ≤ n ∧ n < 2 ^ 62) ∧ q (rngD 0 n.toNat) γ'
  | _ => False
def iR2 (T U : DE Ω) : DI Ω := fun γ q => T γ fun d γ1 => U γ1 fun e γ' => match d, e with
  | .int i, .int j => (-(2 ^ 62) ≤ i ∧ i < 2 ^ 62 ∧ -(2 ^ 62) ≤ j ∧ j < 2 ^ 62) ∧ q (rngD i (j - i).toNat) γ'
  | _, _ => False
theorem id_R1 (h : PI X tg it (iRng1 (upK K W [T]))) : PI X tg it (upI K W (iR1 T)) := PIc h fun σ H R ⟨F, g, γ, q, Rp, t, k⟩ => by
  refine evK_sound [T] Rp (r := fun ds γ' => match ds with
    | [.int n] => (-(2 ^ 62) ≤ n ∧ n < 2 ^ 62) ∧ q (rngD 0 n.toNat) γ'
    | _ => False) ?_ fun ds γ' g' vs H' hq le R' dvs => ?_
  · refine (show T γ _ from ?_)
    have : (fun d γ' => match d with
      | Dat.int n => (-(2 ^ 62) ≤ n ∧ n < 2 ^ 62) ∧ q (rngD 0 n.toNat) γ'
      | _ => False) = (fun (d : Dat Ω) (γ1 : Gam Ω) => evK [] γ1 fun ds γ' => (match d :: ds with
        | [Dat.int n] => (-(2 ^ 62) ≤ n ∧ n < 2 ^ 62) ∧ q (rngD 0 n.toNat) γ'
        | _ => False)) := by
      funext d γ1
      cases d <;> rfl
    rw [← this]
    exact t
  · split at hq
    · cases dvs with
      | cons h1 r => cases r; cases h1; exact ⟨_, rfl, hq.1.1, hq.1.2, k _ γ' H' g' _ hq.2 le R' walk_R⟩
    · exact hq.elim
theorem id_R2 (h : PI X tg it (iRng2 (upK K W [T, U]))) : PI X tg it (upI K W (iR2 T U)) := PIc h fun σ H R ⟨F, g, γ, q, Rp, t, k⟩ => by
  refine evK_sound [T, U] Rp (r := fun ds γ' => match ds with
    | [.int i, .int j] => (-(2 ^ 62) ≤ i ∧ i < 2 ^ 62 ∧ -(2 ^ 62) ≤ j ∧ j < 2 ^ 62) ∧ q (rngD i (j - i).toNat) γ'
    | _ => False) ?_ fun ds γ' g' vs H' hq le R' dvs => ?_
  · refine (show T γ _ from ?_)
    have : (fun d γ1 => U γ1 fun e γ' => match d, e with
      | Dat.int i, Dat.int j => (-(2 ^ 62) ≤ i ∧ i < 2 ^ 62 ∧ -(2 ^ 62) ≤ j ∧ j < 2 ^ 62) ∧ q (rngD i (j - i).toNat) γ'
      | _, _ => False) = (fun (d : Dat Ω) (γ1 : Gam Ω) => evK [U] γ1 fun ds γ' => (match d :: ds with
        | [Dat.int i, Dat.int j] => (-(2 ^ 62) ≤ i ∧ i < 2 ^ 62 ∧ -(2 ^ 62) ≤ j ∧ j < 2 ^ 62) ∧ q (rngD i (j - i).toNat) γ'
        | _ => False)) := by
      funext d γ1
      show U γ1 _ = U γ1 _
      congr 1
      funext e γ2
      cases d <;> cases e <;> rfl
    rw [← this]
    exact t
  · split at hq
    · cases dvs with
      | cons h1 r => cases r with | cons h2 r => cases r; cases h1; cases h2; exact ⟨_, _, rfl, hq.1, k _ γ' H' g' _ hq.2 le R' walk_R⟩
    · exact hq.elim
def signsD (z : Str) : List (Dat Ω) := z.cps.toList.map fun c => .str ⟨#[c]⟩
def iS (T : DE Ω) : DI Ω := fun γ q => T γ fun d γ' => match d with
  | .str z => q (signsD z) γ'
  | _ => False
theorem id_S (h : PE X e (up K W T)) : PI X tg e (upI K W (iS T)) := PIc (pi_str h) fun σ H R ⟨F, g, γ, q, Rp, t, k⟩ => ⟨F, g, γ, _, Rp, t, fun d γ' v H' g' hq le R' dv => by
  cases dv with
  | str z =>
    refine ⟨z, rfl, k _ γ' H' g' _ hq le R' ⟨fun i d g2 H hi le s => ?_, fun i g2 H hi le s => ?_⟩⟩
    · unfold signsD at hi
      rw [List.getElem?_map] at hi
      cases hc : z.cps.toList[i]? with
      | none => rw [hc] at hi; cases hi
      | some c =>
        rw [hc] at hi
        cases hi
        have hl : i < z.cps.toList.length := (List.getElem?_eq_some_iff.mp hc).1
        refine ⟨by rw [Array.length_toList] at hl; exact hl, fun x H' ⟨e, c', hc', ex⟩ => ?_⟩
        subst e ex
        have : z.cps.toList[i]? = some c' := by rw [Array.getElem?_toList]; exact hc'
        rw [hc] at this
        cases this
        exact ⟨g2, .refl s, .str _⟩
    · unfold signsD at hi
      rw [List.length_map, Array.length_toList] at hi
      exact hi
  | _ => exact hq.elim⟩
end
/-! ### for -/
section
variable {X : Cx} {tg it : Expr} {st : Stmt} {TI : DI Ω} {G : DG Ω} {S : DS Ω}
structure loopD (G : DG Ω) (S : DS Ω) (D : EndsD Ω) (ds : List (Dat Ω)) (γ1 : Gam Ω) : Prop where
  ex : ∃ J : Nat → Gam Ω → Prop, J 0 γ1 ∧
    (∀ (i : Nat) (d : Dat Ω) γ, ds[i]? = some d → J i γ → G d γ fun γ2 => S { D with nx := J (i + 1), ct := J (i + 1), bk := D.nx } γ2) ∧ ∀ γ, J ds.length γ → D.nx γ
def dFor (TI : DI Ω) (G : DG Ω) (S : DS Ω) : DS Ω := fun D γ => TI γ fun ds γ1 => loopD G S D ds γ1
theorem ds_for {ix : List Nat} (h : PS X st (tFor (upI K W TI) (upG K W ix G) (upS K W S))) : PS X st (upS K W (dFor TI G S)) := PSc h fun D σ H ⟨F, g, γ, E, R, t, f⟩ =>
  ⟨F, g, γ, _, R, t, fun ds γ1 H1 g1 J hq le R1 wk => by
    obtain ⟨P, p0, ps, pe⟩ := hq.ex
    refine ⟨fun i m σ' H' => m = ds.length - i ∧ i ≤ ds.length ∧ ∃ γ' g', P i γ' ∧ Le g1 g' ∧ Rep K W F g' γ' σ' H', ⟨_, rfl, Nat.zero_le _, γ1, g1, p0, .refl g1, R1⟩, ?_⟩
    rintro i m σ' H' ⟨rfl, hi, γ', g', hp, le', R'⟩
    by_cases hlt : i < ds.length
    · have hd : ds[i]? = some ds[i] := List.getElem?_eq_getElem hlt
      obtain ⟨w1, w2⟩ := wk.go i _ g' H' hd le' R'.sub
      refine .inr ⟨w1, fun σ2 H2 => ∃ γ2 g2, P (i + 1) γ2 ∧ Le g1 g2 ∧ Rep K W F g2 γ2 σ2 H2, fun σ2 H2 ⟨γ2, g2, a, b, c⟩ => ⟨_, by omega, rfl, by omega, γ2, g2, a, b, c⟩, fun x H2 y => ?_⟩
      obtain ⟨g3, G3, dv⟩ := w2 x H2 y
      refine ⟨F, g3, γ', _, _, R'.grow G3, dv, ps i _ γ' hd hp, fun γ4 σ4 H4 g4 hs _ le4 R4 => ?_⟩
      have l4 : Le g1 g4 := (le'.tr G3.le).tr le4
      refine ⟨F, g4, γ4, _, R4, hs, ⟨fun γ5 σ5 H5 g5 a b c => ⟨γ5, g5, a, l4.tr b, c⟩, fun d γ5 v σ5 H5 g5 a b c e => f.rt d γ5 v σ5 H5 g5 a ((le.tr l4).tr b) c e, fun γ5 σ5 H5 g5 a b c => f.nx γ5 σ5 H5 g5 a ((le.tr l4).tr b) c, fun γ5 σ5 H5 g5 a b c => ⟨γ5, g5, a, l4.tr b, c⟩⟩⟩
    · have e : i = ds.length := by omega
      subst e
      exact .inl ⟨wk.stop _ g' H' (Nat.le_refl _) le' R'.sub, f.nx γ' σ' H' g' (pe γ' hp) (le.tr le') R'⟩⟩
end
/-! ### comprehensions -/
def wipeG (γ : Gam Ω) : List Nat → Gam Ω
  | [] => γ
  | v :: vs => (wipeG γ vs).set v none
theorem Rep.wipe {F : Hp} {g : Gh Ω} {γ : Gam Ω} {σ : L2.St} {H : Hp} (R : Rep K W F g γ σ H) : ∀ vs, Rep K W F g (wipeG γ vs) (L2.wipe σ vs) H
  | [] => R
  | v :: vs => (R.wipe vs).unset v none
theorem wipeG_in : ∀ {vs : List Nat} {γ : Gam Ω} {i : Nat} {s : Sl Ω}, (wipeG γ vs)[i]? = some (some s) → γ[i]? = some (some s) ∧ i ∉ vs
  | [], γ, i, s, h => ⟨h, by simp⟩
  | v :: vs, γ, i, s, h => by
    unfold wipeG at h
    by_cases hv : v = i
    · subst hv
      by_cases hl : v < (wipeG γ vs).length
      · rw [List.getElem?_set_self hl] at h
        cases h
      · rw [List.getElem?_eq_none (by rw [List.length_set]; omega)] at h
        cases h
    · rw [List.getElem?_set_ne hv] at h
      obtain ⟨h1, h2⟩ := wipeG_in h
      exact ⟨h1, fun z => (List.mem_cons.mp z).elim (fun e => hv e.symm) h2⟩
/-- slots that are not known may hold anything -/
theorem Rep.of_out {F : Hp} {g : Gh Ω} {γ : Gam Ω} {σ σ' : L2.St} {H : Hp} (R : Rep K W F g γ σ H) (hl : σ'.length = σ.length) (k : ∀ (i : Nat) s, γ[i]? = some (some s) → σ'[i]? = σ[i]?) : Rep K W F g γ σ' H where
  len := hl.trans R.len
  sl := fun i s e => by
    obtain ⟨v, h1, h2⟩ := R.sl i s e
    exact ⟨v, by rw [k i s e]; exact h1, h2⟩
  apart := fun i j s t L ne a b c d e f => R.apart i j s t L ne a b c d (by rw [← k i s a]; exact e) (by rw [← k j t b]; exact f)
  sub := R.sub
  fr := R.fr
  fo := fun i s L a b c => R.fo i s L a b (by rw [← k i s a]; exact c)
def hdel (H : Hp) (a : Addr) : Hp := fun b => if b = a then none else H b
theorem hdel_upd {H : Hp} {a : Addr} {o : HO} (h : H a = some o) : upd (hdel H a) a o = H := by
  funext b
  unfold upd hdel
  by_cases e : b = a
  · rw [if_pos e, e, h]
  · rw [if_neg e, if_neg e]
theorem Rep.foreign {F : Hp} {g : Gh Ω} {γ : Gam Ω} {σ : L2.St} {H : Hp} {D : Addr} {o : HO} (R : Rep K W F g γ σ H) (n : H D = none) : Rep K W (upd F D o) g γ σ (upd H D o) := by
  have G : Grow W g H g (upd H D o) := Grow.own R.sub n
  have R1 := R.grow G
  refine ⟨R1.len, R1.sl, R1.apart, R1.sub, fun a u e => ?_, fun i s L e os ev => ?_⟩
  · by_cases ha : a = D
    · subst ha
      rw [upd_same] at e
      cases e
      exact ⟨upd_same, gnone R.sub n⟩
    · rw [upd_ne ha] at e
      exact R1.fr a u e
  · have ne : L ≠ D := fun z => by
      subst z
      obtain ⟨v, hv, ok⟩ := R.sl i s e
      rw [ev] at hv
      cases hv
      cases s with
      | dat d => cases os
      | raw w => cases os
      | own ds =>
        obtain ⟨L2, vs, e2, _, h2, _⟩ := ok
        cases e2
        rw [n] at h2
        cases h2
      | ownK ks ds =>
        obtain ⟨L2, vs, e2, _, h2, _⟩ := ok
        cases e2
        rw [n] at h2
        cases h2
      | box p m =>
        obtain ⟨e2, _, b0, b1, b2, h2, _⟩ := ok
        cases e2
        rw [n] at h2
        cases h2
    rw [upd_ne ne]
    exact R1.fo i s L e os ev
/-- the foreign thing is another one now -/
theorem Rep.refor {F : Hp} {g : Gh Ω} {γ : Gam Ω} {σ : L2.St} {H : Hp} {D : Addr} {o o' : HO} (R : Rep K W (upd F D o) g γ σ H) : Rep K W (upd F D o') g γ σ (upd H D o') := by
  have gn : g D = none := (R.fr D o upd_same).2
  have fo : ∀ (i : Nat) (s : Sl Ω) L, γ[i]? = some (some s) → s.owned = true → σ[i]? = some (some (.ref L)) → L ≠ D := fun i s L e os ev z => by
    have := R.fo i s L e os ev
    rw [z, upd_same] at this
    cases this
  have kp : ∀ a, a ≠ D → upd H D o' a = H a := fun a h => upd_ne h
  refine ⟨R.len, fun i s e => ?_, R.apart, fun a u e => ?_, fun a u e => ?_, fun i s L e os ev => ?_⟩
  · obtain ⟨v, hv, ok⟩ := R.sl i s e
    refine ⟨v, hv, ?_⟩
    cases s with
    | dat d => exact ok
    | raw w => exact ok
    | own ds =>
      obtain ⟨L, vs, rfl, n, h2, r⟩ := ok
      exact ⟨L, vs, rfl, n, by rw [kp _ (fo i _ L e rfl hv)]; exact h2, r⟩
    | ownK ks ds =>
      obtain ⟨L, vs, rfl, n, h2, l, r⟩ := ok
      exact ⟨L, vs, rfl, n, by rw [kp _ (fo i _ L e rfl hv)]; exact h2, l, r⟩
    | box p m =>
      obtain ⟨rfl, n, b0, b1, b2, h2, r⟩ := ok
      exact ⟨rfl, n, b0, b1, b2, by rw [kp _ (fo i _ p e rfl hv)]; exact h2, r⟩
  · have ne : a ≠ D := fun z => by rw [z, gn] at e; cases e
    exact (R.sub a u e).mono (.refl g) fun o2 q => by rw [kp _ ne]; exact q
  · by_cases ha : a = D
    · subst ha
      rw [upd_same] at e
      cases e
      exact ⟨upd_same, gn⟩
    · rw [upd_ne ha] at e
      have := R.fr a u (by rw [upd_ne ha]; exact e)
      exact ⟨by rw [kp _ ha]; exact this.1, this.2⟩
  · have := R.fo i s L e os ev
    have ne := fo i s L e os ev
    rw [upd_ne ne] at this ⊢
    exact this
theorem Rep.home {F : Hp} {g : Gh Ω} {γ : Gam Ω} {σ : L2.St} {H : Hp} {D : Addr} {o : HO} (R : Rep K W (upd F D o) g γ σ H) (fn : F D = none) : Rep K W F g γ σ (hdel H D) := by
  have gn : g D = none := (R.fr D o upd_same).2
  have fo : ∀ (i : Nat) (s : Sl Ω) L, γ[i]? = some (some s) → s.owned = true → σ[i]? = some (some (.ref L)) → L ≠ D := fun i s L e os ev z => by
    have := R.fo i s L e os ev
    rw [z, upd_same] at this
    cases this
  have kp : ∀ a, a ≠ D → hdel H D a = H a := fun a h => if_neg h
  refine ⟨R.len, fun i s e => ?_, R.apart, fun a u e => ?_, fun a u e => ?_, fun i s L e os ev => ?_⟩
  · obtain ⟨v, hv, ok⟩ := R.sl i s e
    refine ⟨v, hv, ?_⟩
    cases s with
    | dat d => exact ok
    | raw w => exact ok
    | own ds =>
      obtain ⟨L, vs, rfl, n, h2, r⟩ := ok
      exact ⟨L, vs, rfl, n, by rw [kp _ (fo i _ L e rfl hv)]; exact h2, r⟩
    | ownK ks ds =>
      obtain ⟨L, vs, rfl, n, h2, l, r⟩ := ok
      exact ⟨L, vs, rfl, n, by rw [kp _ (fo i _ L e rfl hv)]; exact h2, l, r⟩
    | box p m =>
      obtain ⟨rfl, n, b0, b1, b2, h2, r⟩ := ok
      exact ⟨rfl, n, b0, b1, b2, by rw [kp _ (fo i _ p e rfl hv)]; exact h2, r⟩
  · have ne : a ≠ D := fun z => by rw [z, gn] at e; cases e
    exact (R.sub a u e).mono (.refl g) fun o2 q => by rw [kp _ ne]; exact q
  · have ha : a ≠ D := fun z => by rw [z, fn] at e; cases e
    have := R.fr a u (by rw [upd_ne ha]; exact e)
    exact ⟨by rw [kp _ ha]; exact this.1, this.2⟩
  · have := R.fo i s L e os ev
    rw [upd_ne (fo i s L e os ev)] at this
    exact this
section
variable {X : Cx} {TI : DI Ω} {G : DG Ω} {t : DT Ω} {T : DE Ω} {vs ix : List Nat}
structure compD (vs : List Nat) (G : DG Ω) (t : DT Ω) (T : DE Ω) (q : Dat Ω → Gam Ω → Prop) (ds : List (Dat Ω)) (γ1 : Gam Ω) : Prop where
  ex : ∃ J : Nat → List (Dat Ω) → Gam Ω → Prop, J 0 [] (wipeG γ1 vs) ∧
  (∀ (i : Nat) (d : Dat Ω) acc γ, ds[i]? = some d → J i acc γ → G d γ fun γ2 => t γ2 fun b γ3 => if b = true then T γ3 fun y γ4 => acc.length < sizeLine ∧ J (i + 1) (acc ++ [y]) (wipeG γ4 vs) else J (i + 1) acc (wipeG γ3 vs)) ∧
  ∀ acc γ, J ds.length acc γ → q (.lst acc) γ
def dComp (vs : List Nat) (TI : DI Ω) (G : DG Ω) (t : DT Ω) (T : DE Ω) : DE Ω := fun γ q => TI γ fun ds γ1 => compD vs G t T q ds γ1
theorem wipe_but {σ σ' : L2.St} {vs ix : List Nat} (h : But ix σ σ') (hi : ∀ i ∈ ix, i ∈ vs) : L2.wipe σ' vs = L2.wipe σ vs := by
  apply List.ext_getElem?
  intro i
  by_cases hv : i ∈ vs
  · have e1 : ∀ s : L2.St, (L2.wipe s vs)[i]? = if i < s.length then some none else none := by
      intro s
      have hn : ∀ x, (L2.wipe s vs)[i]? ≠ some (some x) := fun x hx => (wipe_some hx).2 hv
      by_cases hl : i < s.length
      · rw [if_pos hl]
        have hl2 : i < (L2.wipe s vs).length := by rw [wipe_length]; exact hl
        rw [List.getElem?_eq_getElem hl2]
        cases hz : (L2.wipe s vs)[i] with
        | none => rfl
        | some x => exact absurd (by rw [List.getElem?_eq_getElem hl2, hz]) (hn x)
      · rw [if_neg hl, List.getElem?_eq_none (by rw [wipe_length]; omega)]
    rw [e1, e1, h.1]
  · rw [wipe_out hv, wipe_out hv]
    exact h.2 i fun z => hv (hi i z)
theorem lc_up (hi : ∀ i ∈ ix, i ∈ vs) : ∀ σ H Q, upF K W (dComp vs TI G t T) σ H Q → tLc (upI K W TI) (upG K W ix G) (upT K W t) (up K W T) vs σ H Q := fun σ H Q ⟨F, g, γ, q, R, e, k⟩ =>
  ⟨F, g, γ, _, R, e, fun ds γ1 H1 g1 Ji hq le R1 wk D nD => by
    obtain ⟨P, p0, ps, pe⟩ := hq.ex
    have fn : F D = none := by
      cases h : F D with
      | none => rfl
      | some u =>
        have := (R1.fr D u h).1
        rw [nD] at this
        cases this
    have back : ∀ {F' g' γ' σ' H'}, Rep K W F' g' γ' σ' H' → L2.wipe σ' vs = L2.wipe σ vs → Rep K W F' g' (wipeG γ' vs) (L2.wipe σ vs) H' := fun {F' g' γ' σ' H'} R' e => by
      rw [← e]
      exact R'.wipe vs
    refine ⟨fun i m H' => m = ds.length - i ∧ i ≤ ds.length ∧ ∃ acc ws γ' g', P i acc γ' ∧ Le g1 g' ∧ DVs K g' ws acc ∧ H' D = some (.lst ws) ∧ Rep K W (upd F D (.lst ws)) g' γ' (L2.wipe σ vs) H' ∧ (∀ (i : Nat) s, γ'[i]? = some (some s) → i ∉ vs), ⟨_, rfl, Nat.zero_le _, [], [], wipeG γ1 vs, g1, p0, .refl g1, .nil, upd_same, (R1.wipe vs).foreign nD, fun i s e => (wipeG_in e).2⟩, ?_⟩
    rintro i m H' ⟨rfl, hi', acc, ws, γ', g', hp, le', dvs, hD, R', out⟩
    by_cases hlt : i < ds.length
    · have hd : ds[i]? = some ds[i] := List.getElem?_eq_getElem hlt
      obtain ⟨w1, w2⟩ := wk.go i _ g' H' hd le' R'.sub
      refine .inr ⟨w1, fun H2 => ∃ acc ws γ2 g2, P (i + 1) acc γ2 ∧ Le g1 g2 ∧ DVs K g2 ws acc ∧ H2 D = some (.lst ws) ∧ Rep K W (upd F D (.lst ws)) g2 γ2 (L2.wipe σ vs) H2 ∧ (∀ (i : Nat) s, γ2[i]? = some (some s) → i ∉ vs), fun H2 ⟨a, b, c, d, e, f, h, j, l, o⟩ => ⟨_, by omega, rfl, by omega, a, b, c, d, e, f, h, j, l, o⟩, fun x H2 y => ?_⟩
      obtain ⟨g3, G3, dv⟩ := w2 x H2 y
      refine ⟨_, g3, γ', _, _, R'.grow G3, dv, ps i _ acc γ' hd hp, fun γ4 σ4 H4 g4 hs bu le4 R4 => ⟨?_, ?_⟩⟩
      · rw [wipe_but bu hi]
        have : ∀ (s : L2.St) (l : List Nat), L2.wipe (L2.wipe s vs) l = L2.wipe (L2.wipe s vs) l := fun _ _ => rfl
        apply List.ext_getElem?
        intro j
        by_cases hj : j ∈ vs
        · by_cases hl : j < σ.length
          · have hl2 : j < (L2.wipe (L2.wipe σ vs) vs).length := by rw [wipe_length, wipe_length]; exact hl
            have hl3 : j < (L2.wipe σ vs).length := by rw [wipe_length]; exact hl
            rw [List.getElem?_eq_getElem hl2, List.getElem?_eq_getElem hl3]
            cases h1 : (L2.wipe (L2.wipe σ vs) vs)[j] with
            | some x => exact absurd hj (wipe_some (by rw [List.getElem?_eq_getElem hl2, h1])).2
            | none =>
              cases h2 : (L2.wipe σ vs)[j] with
              | some x => exact absurd hj (wipe_some (by rw [List.getElem?_eq_getElem hl3, h2])).2
              | none => rfl
          · rw [List.getElem?_eq_none (by rw [wipe_length, wipe_length]; omega), List.getElem?_eq_none (by rw [wipe_length]; omega)]
        · rw [wipe_out hj]
      · have w4 : L2.wipe σ4 vs = L2.wipe σ vs := by
          rw [wipe_but bu hi]
          apply List.ext_getElem?
          intro j
          by_cases hj : j ∈ vs
          · by_cases hl : j < σ.length
            · have hl2 : j < (L2.wipe (L2.wipe σ vs) vs).length := by rw [wipe_length, wipe_length]; exact hl
              have hl3 : j < (L2.wipe σ vs).length := by rw [wipe_length]; exact hl
              rw [List.getElem?_eq_getElem hl2, List.getElem?_eq_getElem hl3]
              cases h1 : (L2.wipe (L2.wipe σ vs) vs)[j] with
              | some x => exact absurd hj (wipe_some (by rw [List.getElem?_eq_getElem hl2, h1])).2
              | none =>
                cases h2 : (L2.wipe σ vs)[j] with
                | some x => exact absurd hj (wipe_some (by rw [List.getElem?_eq_getElem hl3, h2])).2
                | none => rfl
            · rw [List.getElem?_eq_none (by rw [wipe_length, wipe_length]; omega), List.getElem?_eq_none (by rw [wipe_length]; omega)]
          · rw [wipe_out hj]
        have l4 : Le g1 g4 := (le'.tr G3.le).tr le4
        refine ⟨_, g4, γ4, _, R4, hs, fun b γ5 H5 g5 hb le5 R5 => ?_⟩
        cases b with
        | false => exact ⟨acc, ws, _, g5, hb, l4.tr le5, dvs.more ((G3.le.tr le4).tr le5), (R5.fr D _ upd_same).1, back R5 w4, fun i s e => (wipeG_in e).2⟩
        | true =>
          refine ⟨_, g5, γ5, _, R5, hb, fun d γ6 v H6 g6 hv le6 R6 dv6 => ⟨ws, (R6.fr D _ upd_same).1, ?_, ?_⟩⟩
          · have := dvs.length
            omega
          · refine ⟨acc ++ [d], ws ++ [v], _, g6, hv.2, (l4.tr le5).tr le6, (dvs.more (((G3.le.tr le4).tr le5).tr le6)).append (.cons dv6 .nil), upd_same, (back R6 w4).refor, fun i s e => (wipeG_in e).2⟩
    · have e : i = ds.length := by omega
      subst e
      refine .inl ⟨wk.stop _ g' H' (Nat.le_refl _) le' R'.sub, ?_⟩
      have R2 : Rep K W F g' γ' σ (hdel H' D) := (R'.home fn).of_out (wipe_length σ vs).symm fun i s e => (wipe_out (out i s e)).symm
      have := k acc γ' ws D (hdel H' D) g' (pe acc γ' hp) (le.tr le') R2 (if_pos rfl) dvs
      rw [hdel_upd hD] at this
      exact this⟩
end
end
end DL
set_option Elab.async false
set_option linter.all false
set_option maxRecDepth 100000
set_option maxHeartbeats 4000000
namespace DL
open PySem PySem.Spec PyProof.Rows L2 Nv
section
variable {Ω : Type} {K : PySem.W.Frag} {W : Obs Ω}
/-! ### promises over data -/
structure Frm (W : Obs Ω) (F : Hp) (g : Gh Ω) (H : Hp) : Prop where
  sub : Subs W g H
  fr : ∀ a o, F a = some o → H a = some o ∧ g a = none
/-- data in, a datum out -/
def spP (K : PySem.W.Frag) (W : Obs Ω) (f : FD Ω) : Sp := fun vs H Q _ => ∃ F g ds q, Frm W F g H ∧ DVs K g vs ds ∧ f ds q ∧ ∀ d v g' H', q d → Le g g' → Frm W F g' H' → DV K g' v d → Q v H'
/-- a box and data in -/
def spB (K : PySem.W.Frag) (W : Obs Ω) (f : Nat → List (Dat Ω) → (Dat Ω → Nat → Prop) → Prop) : Sp := fun vs H Q _ => ∃ F g p m ws ds q, vs = .ref p :: ws ∧ Frm W F g H ∧ F p = none ∧ g p = none ∧ BoxAt H p m ∧ DVs K g ws ds ∧ f m ds q ∧
  ∀ d m' v g' H', q d m' → Le g g' → Frm W F g' H' → g' p = none → BoxAt H' p m' → DV K g' v d → Q v H'
/-- take's own -/
def ButP (p : Addr) (H H' : Hp) : Prop := ∀ c o, c ≠ p → H c = some o → H' c = some o
def spTk : Sp := fun vs H Q _ => ∃ (p : Addr) (m : Nat) (many : Int), vs = [.ref p, .int many] ∧ BoxAt H p m ∧ m ≤ 1000000 ∧ 0 < many ∧ many ≤ 100000 ∧ ∀ r H', 0 ≤ r → r < many → BoxAt H' p (m + 1) → ButP p H H' → Q (.int r) H'
def ent (N : List Str) (ds : List (Dat Ω)) : Gam Ω := ds.map (fun d => some (.dat d)) ++ List.replicate (N.length - ds.length) none
def entB (N : List Str) (p : Addr) (m : Nat) (ds : List (Dat Ω)) : Gam Ω := some (.box p m) :: (ds.map (fun d => some (.dat d)) ++ List.replicate (N.length - (ds.length + 1)) none)
theorem ent_at {N : List Str} {ds : List (Dat Ω)} {i : Nat} {s : Sl Ω} (h : (ent N ds)[i]? = some (some s)) : ∃ d, ds[i]? = some d ∧ s = .dat d := by
  unfold ent at h
  by_cases hi : i < ds.length
  · rw [List.getElem?_append_left (by rw [List.length_map]; exact hi), List.getElem?_map, List.getElem?_eq_getElem hi] at h
    exact ⟨ds[i], List.getElem?_eq_getElem hi, (Option.some.inj (Option.some.inj h)).symm⟩
  · rw [List.getElem?_append_right (by rw [List.length_map]; omega), List.getElem?_replicate] at h
    split at h
    · cases h
    · cases h
theorem start_at {N : List Str} {vs : List V} {i : Nat} {v : V} (h : vs[i]? = some v) : (L2.start N vs)[i]? = some (some v) := by
  have hi : i < vs.length := (List.getElem?_eq_some_iff.mp h).1
  unfold L2.start
  rw [List.getElem?_append_left (by rw [List.length_map]; exact hi), List.getElem?_map, h]
  rfl
theorem rep_ent {F : Hp} {g : Gh Ω} {H : Hp} {N : List Str} {vs : List V} {ds : List (Dat Ω)} (f : Frm W F g H) (r : DVs K g vs ds) : Rep K W F g (ent N ds) (L2.start N vs) H where
  len := by
    unfold ent L2.start
    rw [List.length_append, List.length_append, List.length_map, List.length_map, List.length_replicate, List.length_replicate, r.length]
  sl := fun i s h => by
    obtain ⟨d, hd, rfl⟩ := ent_at h
    obtain ⟨v, hv, dv⟩ := r.at' i d hd
    exact ⟨v, start_at hv, dv⟩
  apart := fun i j s t L ne a b c d e f => by
    obtain ⟨d, hd, rfl⟩ := ent_at a
    cases c
  sub := f.sub
  fr := f.fr
  fo := fun i s L a b c => by
    obtain ⟨d, hd, rfl⟩ := ent_at a
    cases b
theorem entB_at {N : List Str} {p : Addr} {m : Nat} {ds : List (Dat Ω)} {i : Nat} {s : Sl Ω} (h : (entB N p m ds)[i]? = some (some s)) : (i = 0 ∧ s = .box p m) ∨ ∃ j d, i = j + 1 ∧ ds[j]? = some d ∧ s = .dat d := by
  cases i with
  | zero =>
    have h : some (some (Sl.box p m)) = some (some s) := h
    cases h
    exact .inl ⟨rfl, rfl⟩
  | succ j =>
    have h : (ds.map (fun d => some (Sl.dat d)) ++ List.replicate (N.length - (ds.length + 1)) none)[j]? = some (some s) := h
    by_cases hi : j < ds.length
    · rw [List.getElem?_append_left (by rw [List.length_map]; exact hi), List.getElem?_map, List.getElem?_eq_getElem hi] at h
      exact .inr ⟨j, ds[j], rfl, List.getElem?_eq_getElem hi, (Option.some.inj (Option.some.inj h)).symm⟩
    · rw [List.getElem?_append_right (by rw [List.length_map]; omega), List.getElem?_replicate] at h
      split at h
      · cases h
      · cases h
theorem rep_entB {F : Hp} {g : Gh Ω} {H : Hp} {N : List Str} {p : Addr} {m : Nat} {vs : List V} {ds : List (Dat Ω)} (f : Frm W F g H) (fp : F p = none) (gp : g p = none) (b : BoxAt H p m) (r : DVs K g vs ds) : Rep K W F g (entB N p m ds) (L2.start N (.ref p :: vs)) H where
  len := by
    have h1 := r.length
    unfold entB L2.start
    simp only [List.length_cons, List.length_append, List.length_map, List.length_replicate]
    omega
  sl := fun i s h => by
    rcases entB_at h with ⟨rfl, rfl⟩ | ⟨j, d, rfl, hd, rfl⟩
    · exact ⟨.ref p, rfl, rfl, gp, b⟩
    · obtain ⟨v, hv, dv⟩ := r.at' j d hd
      exact ⟨v, start_at (vs := .ref p :: vs) (i := j + 1) (by simpa using hv), dv⟩
  apart := fun i j s t L ne a b c d e f => by
    rcases entB_at a with ⟨rfl, rfl⟩ | ⟨j1, d1, rfl, hd, rfl⟩
    · rcases entB_at b with ⟨rfl, rfl⟩ | ⟨j2, d2, rfl, hd, rfl⟩
      · exact ne rfl
      · cases d
    · cases c
  sub := f.sub
  fr := f.fr
  fo := fun i s L a b c => by
    rcases entB_at a with ⟨rfl, rfl⟩ | ⟨j1, d1, rfl, hd, rfl⟩
    · have : (L2.start N (.ref p :: vs))[0]? = some (some (.ref p)) := start_at rfl
      rw [this] at c
      cases c
      exact fp
    · cases b
section
variable {P : Program} {w : World} {mg : Str → Option Value} {base : Heap}
theorem fnP {x qual : Str} {st : Stmt} {f : Addr} {fd : FuncData} {N ps : List Str} {k : Nat} {fD : FD Ω} (Fn : Fun K x qual st f fd) (S : FnScope N ps (defScope st)) (len : ∀ ds q, fD ds q → ds.length = ps.length)
    (body : ∀ (cdv : Value) (A : Around) (outer : List Env) (s : Shared) (H : Hp) (E : XK), Room k (A.deeper (envOfC qual (defScope st) s.heap.objs.size f cdv)) →
      ∃ T, PSs (cxOf CX0 P w K mg base N qual (defScope st) f cdv A outer s H E).nox (defBody st) (upS K W T) ∧ ∀ ds q, fD ds q → T { nx := fun _ => q .non, rt := fun d _ => q d } (ent N ds)) : FnOk P w K mg base CX0 (k + 1) f fd ps (spP K W fD) := by
  refine Fn.ok S (fun vs H Q E ⟨F, g, ds, q, fr, dvs, hf, _⟩ => by rw [dvs.length]; exact len ds q hf) fun cdv A outer s H vs Q E hr ⟨F, g, ds, q, fr, dvs, hf, k⟩ => ?_
  obtain ⟨T, h, b⟩ := body cdv A outer s H E hr
  refine ⟨_, h, F, g, ent N ds, _, rep_ent fr dvs, b ds q hf, ⟨fun γ' σ' H' g' e le R => ?_, fun d γ' v σ' H' g' e le R dv => ?_, fun γ' σ' H' g' e le R => e.elim, fun γ' σ' H' g' e le R => e.elim⟩⟩
  · exact k .non .non g' H' e le ⟨R.sub, R.fr⟩ .non
  · exact k d v g' H' e le ⟨R.sub, R.fr⟩ dv
theorem fnB {x qual : Str} {st : Stmt} {f : Addr} {fd : FuncData} {N ps : List Str} {k : Nat} {fD : Nat → List (Dat Ω) → (Dat Ω → Nat → Prop) → Prop} (Fn : Fun K x qual st f fd) (S : FnScope N ps (defScope st)) (len : ∀ m ds q, fD m ds q → ds.length + 1 = ps.length)
    (body : ∀ (cdv : Value) (A : Around) (outer : List Env) (s : Shared) (H : Hp) (E : XK), Room k (A.deeper (envOfC qual (defScope st) s.heap.objs.size f cdv)) →
      ∃ T, PSs (cxOf CX0 P w K mg base N qual (defScope st) f cdv A outer s H E).nox (defBody st) (upS K W T) ∧ ∀ p m ds q, fD m ds q → T { nx := fun γ => ∃ m', γ[0]? = some (some (.box p m')) ∧ q .non m', rt := fun d γ => ∃ m', γ[0]? = some (some (.box p m')) ∧ q d m' } (entB N p m ds)) : FnOk P w K mg base CX0 (k + 1) f fd ps (spB K W fD) := by
  refine Fn.ok S (fun vs H Q E ⟨F, g, p, m, ws, ds, q, ev, fr, fp, gp, b, dvs, hf, _⟩ => by rw [ev, List.length_cons, dvs.length]; exact len m ds q hf) fun cdv A outer s H vs Q E hr ⟨F, g, p, m, ws, ds, q, ev, fr, fp, gp, bx, dvs, hf, k⟩ => ?_
  subst ev
  obtain ⟨T, h, b⟩ := body cdv A outer s H E hr
  refine ⟨_, h, F, g, entB N p m ds, _, rep_entB fr fp gp bx dvs, b p m ds q hf, ⟨fun γ' σ' H' g' ⟨m', e0, e⟩ le R => ?_, fun d γ' v σ' H' g' ⟨m', e0, e⟩ le R dv => ?_, fun γ' σ' H' g' e le R => e.elim, fun γ' σ' H' g' e le R => e.elim⟩⟩
  · obtain ⟨v, hv, rfl, gn, bx'⟩ := R.sl 0 _ e0
    exact k .non m' .non g' H' e le ⟨R.sub, R.fr⟩ gn bx' .non
  · obtain ⟨v, hv, rfl, gn, bx'⟩ := R.sl 0 _ e0
    exact k d m' _ g' H' e le ⟨R.sub, R.fr⟩ gn bx' dv
end
/-! ### calls -/
theorem Rep.after {F : Hp} {g g' : Gh Ω} {γ : Gam Ω} {σ : L2.St} {H H' : Hp} (R : Rep K W F g γ σ H) (le : Le g g') (s : Subs W g' H') (k : ∀ a o, H a = some o → g a = none → H' a = some o ∧ g' a = none) : Rep K W F g' γ σ H' where
  len := R.len
  sl := fun i t e => by
    obtain ⟨v, h1, h2⟩ := R.sl i t e
    refine ⟨v, h1, ?_⟩
    cases t with
    | dat d => exact DV.more le h2
    | own ds =>
      obtain ⟨L, vs, rfl, n, hl, r⟩ := h2
      exact ⟨L, vs, rfl, (k _ _ hl n).2, (k _ _ hl n).1, r.more le⟩
    | ownK ks ds =>
      obtain ⟨L, vs, rfl, n, hl, l, r⟩ := h2
      exact ⟨L, vs, rfl, (k _ _ hl n).2, (k _ _ hl n).1, l, r.more le⟩
    | box p m =>
      obtain ⟨rfl, n, b0, b1, b2, hp, r⟩ := h2
      exact ⟨rfl, (k _ _ hp n).2, b0, b1, b2, (k _ _ hp n).1, r⟩
    | raw w => exact h2
  apart := R.apart
  sub := s
  fr := fun a o e => by
    obtain ⟨h1, h2⟩ := R.fr a o e
    exact k a o h1 h2
  fo := R.fo
/-- .. but for the box at slot i -/
theorem Rep.afterB {F : Hp} {g g' : Gh Ω} {γ : Gam Ω} {σ : L2.St} {H H' : Hp} {i : Nat} {p : Addr} {m m' : Nat} (R : Rep K W F g γ σ H) (e : γ[i]? = some (some (.box p m))) (le : Le g g') (s : Subs W g' H') (k : ∀ a o, a ≠ p → H a = some o → g a = none → H' a = some o ∧ g' a = none)
    (gp : g' p = none) (b : BoxAt H' p m') : Rep K W F g' (γ.set i (some (.box p m'))) σ H' := by
  have hl : i < γ.length := (List.getElem?_eq_some_iff.mp e).1
  obtain ⟨v, hv, rfl, gn, b0⟩ := R.sl i _ e
  refine ⟨by rw [List.length_set]; exact R.len, fun j t ej => ?_, fun a b s1 t L' ne ha hb o1 ot va vb => ?_, s, fun a o e => ?_, fun j t L' ej ot vj => ?_⟩
  · by_cases hj : i = j
    · subst hj
      rw [List.getElem?_set_self hl] at ej
      cases ej
      exact ⟨_, hv, rfl, gp, b⟩
    · rw [List.getElem?_set_ne hj] at ej
      obtain ⟨u, h1, h2⟩ := R.sl j t ej
      refine ⟨u, h1, ?_⟩
      have ap : ∀ L, t.owned = true → u = .ref L → L ≠ p := fun L ot eu z => R.apart i j _ _ p hj e ej rfl ot hv (by rw [h1, eu, z])
      cases t with
      | dat d => exact DV.more le h2
      | own ds =>
        obtain ⟨L, vs, rfl, n, hl, r⟩ := h2
        have := k L _ (ap L rfl rfl) hl n
        exact ⟨L, vs, rfl, this.2, this.1, r.more le⟩
      | ownK ks ds =>
        obtain ⟨L, vs, rfl, n, hl, l, r⟩ := h2
        have := k L _ (ap L rfl rfl) hl n
        exact ⟨L, vs, rfl, this.2, this.1, l, r.more le⟩
      | box p2 m2 =>
        obtain ⟨rfl, n, c0, c1, c2, hp, r⟩ := h2
        have := k p2 _ (ap p2 rfl rfl) hp n
        exact ⟨rfl, this.2, c0, c1, c2, this.1, r⟩
      | raw w => exact h2
  · have fa : ∃ s0, γ[a]? = some (some s0) ∧ s0.owned = true := by
      by_cases z : i = a
      · subst z
        exact ⟨_, e, rfl⟩
      · rw [List.getElem?_set_ne z] at ha
        exact ⟨_, ha, o1⟩
    have fb : ∃ s0, γ[b]? = some (some s0) ∧ s0.owned = true := by
      by_cases z : i = b
      · subst z
        exact ⟨_, e, rfl⟩
      · rw [List.getElem?_set_ne z] at hb
        exact ⟨_, hb, ot⟩
    obtain ⟨sa, ea, oa⟩ := fa
    obtain ⟨sb, eb, ob⟩ := fb
    exact R.apart a b sa sb L' ne ea eb oa ob va vb
  · obtain ⟨h1, h2⟩ := R.fr a o e
    have ne : a ≠ p := fun z => by
      have := R.fo i _ p ‹_› rfl hv
      rw [z, this] at e
      cases e
    exact k a o ne h1 h2
  · by_cases z : i = j
    · subst z
      exact R.fo i _ L' e rfl vj
    · rw [List.getElem?_set_ne z] at ej
      exact R.fo j t L' ej ot vj
section
variable {X : Cx} {e : Expr} {Ts : List (DE Ω)} {T : DE Ω}
/-- f(e, ..) of data -/
theorem pd_callP {fD : FD Ω} {E : XK} (h : PE X e (tCall (spP K W fD) [] E (upK K W Ts))) : PE X e (up K W (tKs Ts fD)) := PEc h fun σ H Q ⟨F, g, γ, q, R, t, k⟩ =>
  evK_sound Ts R t fun ds γ' g' vs H' hf le R' dvs => by
    rw [List.append_nil]
    refine ⟨fun a => match g' a with | none => H' a | some _ => none, g', ds, _, ⟨R'.sub, fun a o ea => ?_⟩, dvs, hf, fun d v g2 H2 hq le2 fr dv => ?_⟩
    · cases hg : g' a with
      | none =>
        simp only [hg] at ea
        exact ⟨ea, rfl⟩
      | some u =>
        simp only [hg] at ea
        cases ea
    · exact k d γ' v H2 g2 hq (le.tr le2) (R'.after le2 fr.sub fun a o ha hn => fr.fr a o (by simp only [hn]; exact ha)) dv
/-- f(box, e, ..) -/
def tCB' (i : Nat) (Ts : List (DE Ω)) (fD : Nat → List (Dat Ω) → (Dat Ω → Nat → Prop) → Prop) : DE Ω := fun γ q => match γ[i]? with
  | some (some (.box _ _)) => evK Ts γ fun ds γ' => (match γ'[i]? with
    | some (some (.box p m)) => fD m ds fun d m' => q d (γ'.set i (some (.box p m')))
    | _ => False)
  | _ => False
theorem pd_callBx {i : Nat} {fD : Nat → List (Dat Ω) → (Dat Ω → Nat → Prop) → Prop} {E : XK} (h : PE X e (tCall (spB K W fD) [] E (tCons (tVar i) (upK K W Ts)))) : PE X e (up K W (tCB' i Ts fD)) := PEc h fun σ H Q ⟨F, g, γ, q, R, t, k⟩ => by
  unfold tCB' at t
  split at t
  · rename_i p0 m0 e0
    obtain ⟨v, hv, rfl, gn, b0⟩ := R.sl i _ e0
    refine ⟨_, hv, evK_sound Ts R t fun ds γ' g' vs H' hf le R' dvs => ?_⟩
    show spB K W fD ((.ref p0 :: vs) ++ []) H' Q E
    rw [List.append_nil]
    split at hf
    · rename_i p m e1
      obtain ⟨v1, hv1, rfl, gn1, b1⟩ := R'.sl i _ e1
      rw [hv] at hv1
      cases hv1
      refine ⟨fun a => if a = p0 then none else (match g' a with | none => H' a | some _ => none), g', p0, m, vs, ds, _, rfl, ⟨R'.sub, fun a o ea => ?_⟩, if_pos rfl, gn1, b1, dvs, hf, fun d m' v g2 H2 hq le2 fr gp bx dv => ?_⟩
      · by_cases ha : a = p0
        · simp only [if_pos ha] at ea
          cases ea
        · simp only [if_neg ha] at ea
          cases hg : g' a with
          | none =>
            simp only [hg] at ea
            exact ⟨ea, rfl⟩
          | some u =>
            simp only [hg] at ea
            cases ea
      · exact k d _ v H2 g2 hq (le.tr le2) (R'.afterB e1 le2 fr.sub (fun a o na ha hn => fr.fr a o (by simp only [if_neg na, hn]; exact ha)) gp bx) dv
    · exact hf.elim
  · exact t.elim
/-- take -/
def tTk (i : Nat) (T : DE Ω) : DE Ω := fun γ q => match γ[i]? with
  | some (some (.box _ _)) => T γ fun d γ' => (match d, γ'[i]? with
    | .int many, some (some (.box p m)) => (m ≤ 1000000 ∧ 0 < many ∧ many ≤ 100000) ∧ ∀ r, 0 ≤ r → r < many → q (.int r) (γ'.set i (some (.box p (m + 1))))
    | _, _ => False)
  | _ => False
theorem pd_take {i : Nat} {E : XK} (h : PE X e (tCall spTk [] E (tCons (tVar i) (upK K W [T])))) : PE X e (up K W (tTk i T)) := PEc h fun σ H Q ⟨F, g, γ, q, R, t, k⟩ => by
  unfold tTk at t
  split at t
  · rename_i p0 m0 e0
    obtain ⟨v, hv, rfl, gn, b0⟩ := R.sl i _ e0
    refine ⟨_, hv, F, g, γ, _, R, t, fun d γ' y H' g' hq le R' dv => ?_⟩
    split at hq
    · rename_i d1 o1 many p m e1
      obtain ⟨v1, hv1, rfl, gn1, b1⟩ := R'.sl i _ e1
      rw [hv] at hv1
      cases hv1
      cases dv
      refine ⟨p0, m, many, rfl, b1, hq.1.1, hq.1.2.1, hq.1.2.2, fun r H2 r0 r1 bx bu => ?_⟩
      refine k _ _ _ H2 g' (hq.2 r r0 r1) le (R'.afterB e1 (.refl g') (fun a o ea => ?_) (fun a o na ha hn => ⟨bu a o na ha, hn⟩) gn1 bx) (.int r)
      have ne : a ≠ p0 := fun z => by rw [z, gn1] at ea; cases ea
      exact (R'.sub a o ea).mono (.refl g') fun o' q => bu a o' ne q
    · exact hq.elim
  · exact t.elim
end
end
end DL
set_option Elab.async false
set_option linter.all false
set_option maxRecDepth 100000
set_option maxHeartbeats 4000000
namespace DL
open PySem PySem.Spec PyProof.Rows L2 Nv
section
variable {Ω : Type} {K : PySem.W.Frag} {W : Obs Ω}
/-! ### a op b op' c, of ints -/
def dChain (h h' : Int → Int → Bool) (T U V : DE Ω) : DE Ω := fun γ q => T γ fun a γ1 => U γ1 fun b γ2 => match a, b with
  | .int i, .int j => if h i j = true then V γ2 fun c γ3 => (match c with | .int k => q (.bl (h' j k)) γ3 | _ => False) else q (.bl false) γ2
  | _, _ => False
section
variable {X : Cx} {a b c : Expr} {T U V : DE Ω} {pos : Pos}
theorem chain_up {h h' : Int → Int → Bool} : ∀ σ H Q, up K W (dChain h h' T U V) σ H Q → tChain (rI0 fun i j => .bl (h i j)) (rI0 fun i j => .bl (h' i j)) (up K W T) (up K W U) (up K W V) σ H Q := fun σ H Q ⟨F, g, γ, q, R, t, k⟩ =>
  ⟨F, g, γ, _, R, t, fun d γ1 v H1 g1 h1 le1 R1 dv => ⟨F, g1, γ1, _, R1, h1, fun e γ2 w H2 g2 h2 le2 R2 dw => by
    split at h2
    · rename_i i j
      cases dv
      cases dw
      refine ⟨i, j, rfl, rfl, _, rfl, ?_⟩
      by_cases c : h i j = true
      · rw [if_pos c] at h2
        rw [if_pos c]
        refine ⟨F, g2, γ2, _, R2, h2, fun e γ3 w H3 g3 h3 le3 R3 dw => ?_⟩
        split at h3
        · cases dw
          exact ⟨_, _, rfl, rfl, k _ γ3 _ H3 g3 h3 ((le1.tr le2).tr le3) R3 (.bl _)⟩
        · exact h3.elim
      · rw [if_neg c] at h2
        rw [if_neg c]
        exact k _ γ2 _ H2 g2 h2 (le1.tr le2) R2 (.bl _)
    · exact h2.elim⟩⟩
theorem pt_ch {op op' : CmpOp} {h h' : Int → Int → Bool} (ho : OpR X (compareOp op) (rI0 fun i j => .bl (h i j))) (ho' : OpR X (compareOp op') (rI0 fun i j => .bl (h' i j))) (ha : PE X a (up K W T)) (hb : PE X b (up K W U)) (hc : PE X c (up K W V))
    (hm : lastMarks [op, op'] [b, c] = false := by with_unfolding_all rfl) : PT X (.Compare a [op, op'] [b, c] pos) (upT K W (tB' (dChain h h' T U V))) := ptest (PTc (pt_chain ho ho' ha hb hc hm) fun _ _ _ h => h) chain_up
theorem pd_ch {op op' : CmpOp} {h h' : Int → Int → Bool} (ho : OpR X (compareOp op) (rI0 fun i j => .bl (h i j))) (ho' : OpR X (compareOp op') (rI0 fun i j => .bl (h' i j))) (ha : PE X a (up K W T)) (hb : PE X b (up K W U)) (hc : PE X c (up K W V))
    (hm : lastMarks [op, op'] [b, c] = false := by with_unfolding_all rfl) : PE X (.Compare a [op, op'] [b, c] pos) (up K W (dChain h h' T U V)) := PEc (pe_chain ho ho' ha hb hc hm) chain_up
end
/-! ### built-ins by name -/
theorem pd_cb {X : Cx} {e : Expr} {As : List (Opn Ω)} {r : List V → Hp → VK → Prop} {f : FD Ω} (hp : PE X e (tCB r (upA K W As))) (od : OpD K W r f) : PE X e (up K W (tOps As f)) := pe_ops (r := r) (PEc hp fun _ _ _ h => h) od
theorem pf_cb {X : Cx} {e : Expr} {As : List (Opn Ω)} {r : List V → Hp → VK → Prop} {f : FD Ω} (hp : PE X e (tCB r (upA K W As))) (od : OpF K W r f) : PE X e (upF K W (tOps As f)) := pf_ops (r := r) (PEc hp fun _ _ _ h => h) od
def fLen : FD Ω
  | [.lst ds], k => k (.int ds.length)
  | [.tup ds], k => k (.int ds.length)
  | [.str z], k => z.length ≤ sizeLine ∧ k (.int z.length)
  | _, _ => False
def rLenA (K : PySem.W.Frag) : List V → Hp → VK → Prop := fun xs H Q => (∃ p ys, xs = [.ref p] ∧ (SqL K H p ys ∨ SqT K H p ys) ∧ Q (.int ys.length) H) ∨ (∃ z, xs = [.str z] ∧ z.length ≤ sizeLine ∧ Q (.int z.length) H)
theorem call_lenA {X : Cx} : CallR X (.builtin "len") (rLenA X.K) := CallR.or call_len_seq call_len_str
theorem od_len : OpD K W (rLenA K) fLen := by
  intro g H vs ds k Q s p e q
  unfold fLen at e
  split at e
  · cases p with
    | cons p1 p =>
      cases p
      obtain ⟨a, xs, rfl, ha, r⟩ := p1.lst s
      exact .inl ⟨a, xs, rfl, .inl (SqL.of ha), by rw [r.length]; exact q _ _ _ _ e (.refl s) (.int _)⟩
  · cases p with
    | cons p1 p =>
      cases p
      obtain ⟨a, xs, rfl, ha, r⟩ := p1.tup s
      exact .inl ⟨a, xs, rfl, .inr ha, by rw [r.length]; exact q _ _ _ _ e (.refl s) (.int _)⟩
  · cases p with | cons p1 p => cases p; cases p1.str; exact .inr ⟨_, rfl, e.1, q _ _ _ _ e.2 (.refl s) (.int _)⟩
  · exact e.elim
def fMax2 : FD Ω
  | [.int i, .int j], k => k (.int (if j > i then j else i))
  | _, _ => False
def fMin2 : FD Ω
  | [.int i, .int j], k => k (.int (if j < i then j else i))
  | _, _ => False
def fAbs : FD Ω
  | [.int i], k => k (.int (if i < 0 then -i else i))
  | _, _ => False
theorem od_max2 : OpD K W (fun xs H Q => ∃ i j, xs = [.int i, .int j] ∧ Q (.int (if j > i then j else i)) H) fMax2 := by
  intro g H vs ds k Q s p e q
  unfold fMax2 at e
  split at e
  · cases p with | cons p1 p => cases p with | cons p2 p => cases p; cases p1.int; cases p2.int; exact ⟨_, _, rfl, q _ _ _ _ e (.refl s) (.int _)⟩
  · exact e.elim
theorem od_min2 : OpD K W (fun xs H Q => ∃ i j, xs = [.int i, .int j] ∧ Q (.int (if j < i then j else i)) H) fMin2 := by
  intro g H vs ds k Q s p e q
  unfold fMin2 at e
  split at e
  · cases p with | cons p1 p => cases p with | cons p2 p => cases p; cases p1.int; cases p2.int; exact ⟨_, _, rfl, q _ _ _ _ e (.refl s) (.int _)⟩
  · exact e.elim
theorem od_abs : OpD K W (fun xs H Q => ∃ i, xs = [.int i] ∧ Q (.int (if i < 0 then -i else i)) H) fAbs := by
  intro g H vs ds k Q s p e q
  unfold fAbs at e
  split at e
  · cases p with | cons p1 p => cases p; cases p1.int; exact ⟨_, rfl, q _ _ _ _ e (.refl s) (.int _)⟩
  · exact e.elim
def fInt : FD Ω
  | [.int i], k => k (.int i)
  | [.bl b], k => k (.int (if b then 1 else 0))
  | _, _ => False
theorem od_int : OpD K W (fun xs H Q => (∃ i, xs = [.int i] ∧ Q (.int i) H) ∨ ∃ k, xs = [.bl k] ∧ Q (.int (if k then 1 else 0)) H) fInt := by
  intro g H vs ds k Q s p e q
  unfold fInt at e
  split at e
  · cases p with | cons p1 p => cases p; cases p1.int; exact .inl ⟨_, rfl, q _ _ _ _ e (.refl s) (.int _)⟩
  · cases p with | cons p1 p => cases p; cases p1.bl; exact .inr ⟨_, rfl, q _ _ _ _ e (.refl s) (.int _)⟩
  · exact e.elim
def fStr : FD Ω
  | [.int i], k => i.natAbs.log2 < 1920 ∧ k (.str (Str.ofString (toString i)))
  | _, _ => False
theorem od_str : OpD K W (fun xs H Q => ∃ i, xs = [.int i] ∧ i.natAbs.log2 < 1920 ∧ Q (.str (Str.ofString (toString i))) H) fStr := by
  intro g H vs ds k Q s p e q
  unfold fStr at e
  split at e
  · cases p with | cons p1 p => cases p; cases p1.int; exact ⟨_, rfl, e.1, q _ _ _ _ e.2 (.refl s) (.str _)⟩
  · exact e.elim
theorem call_str_i {X : Cx} : CallR X (.type "str") (fun xs H Q => ∃ i, xs = [.int i] ∧ i.natAbs.log2 < 1920 ∧ Q (.str (Str.ofString (toString i))) H) := call_str_int
/-- list(x) -/
def fListOf : FD Ω
  | [.lst ds], k => k (.lst ds)
  | [.tup ds], k => k (.lst ds)
  | _, _ => False
def rListOf (K : PySem.W.Frag) : List V → Hp → VK → Prop := fun xs H Q => ∃ p ys, xs = [.ref p] ∧ (SqL K H p ys ∨ SqT K H p ys) ∧ ∀ l, H l = none → Q (.ref l) (upd H l (.lst ys))
theorem call_listOf {X : Cx} : CallR X (.type "list") (rListOf X.K) := call_list_of
theorem of_list : OpF K W (rListOf K) fListOf := by
  intro g H vs ds k Q s p e q
  unfold fListOf at e
  split at e
  · cases p with
    | cons p1 p =>
      cases p
      obtain ⟨a, xs, rfl, ha, r⟩ := p1.lst s
      exact ⟨a, xs, rfl, .inl (SqL.of ha), fun l n => q _ _ _ _ _ e (.refl s) n r⟩
  · cases p with
    | cons p1 p =>
      cases p
      obtain ⟨a, xs, rfl, ha, r⟩ := p1.tup s
      exact ⟨a, xs, rfl, .inr ha, fun l n => q _ _ _ _ _ e (.refl s) n r⟩
  · exact e.elim
/-- tuple(x) -/
def fTupOf : FD Ω
  | [.lst ds], k => k (.tup ds)
  | [.tup ds], k => k (.tup ds)
  | _, _ => False
def rTupOf (K : PySem.W.Frag) : List V → Hp → VK → Prop := fun xs H Q => ∃ p ys, xs = [.ref p] ∧ ((SqL K H p ys ∧ ∀ l, H l = none → Q (.ref l) (upd H l (.tup ys))) ∨ (SqT K H p ys ∧ Q (.ref p) H))
theorem call_tupOf {X : Cx} : CallR X (.type "tuple") (rTupOf X.K) := call_tuple_of
theorem od_tup : OpD K W (rTupOf K) fTupOf := by
  intro g H vs ds k Q s p e q
  unfold fTupOf at e
  split at e
  · cases p with
    | cons p1 p =>
      cases p
      obtain ⟨a, xs, rfl, ha, r⟩ := p1.lst s
      exact ⟨a, xs, rfl, .inl ⟨SqL.of ha, fun l n => fin_new s q e n fun g' le h => .tup h (r.more le)⟩⟩
  · cases p with
    | cons p1 p =>
      cases p
      cases p1 with
      | dat p1 =>
        obtain ⟨a, xs, e1, ha, r⟩ := (PV.dat (H := H) p1).tup s
        subst e1
        exact ⟨a, xs, rfl, .inr ⟨ha, q _ _ _ _ e (.refl s) p1⟩⟩
  · exact e.elim
/-- all(x), any(x): a list of bools -/
def fAll (any : Bool) : FD Ω
  | [.lst ds], k => ∃ bs : List Bool, ds = bs.map Dat.bl ∧ k (.bl (if any then bs.any id else bs.all id))
  | _, _ => False
theorem dvs_bl {g : Gh Ω} : ∀ {vs : List V} (bs : List Bool), DVs K g vs (bs.map Dat.bl) → vs = bs.map V.bl
  | _, [], h => by
    cases h
    rfl
  | _, b :: bs, h => by
    cases h with
    | cons h r =>
      cases h
      rw [dvs_bl bs r]
      rfl
theorem od_all : OpD K W (rAll K) (fAll false) := by
  intro g H vs ds k Q s p e q
  unfold fAll at e
  split at e
  · obtain ⟨bs, rfl, e⟩ := e
    cases p with
    | cons p1 p =>
      cases p
      obtain ⟨a, xs, rfl, ha, r⟩ := p1.lst s
      cases dvs_bl bs r
      exact ⟨a, bs, rfl, SqL.of ha, q _ _ _ _ e (.refl s) (.bl _)⟩
  · exact e.elim
theorem od_any : OpD K W (rAny K) (fAll true) := by
  intro g H vs ds k Q s p e q
  unfold fAll at e
  split at e
  · obtain ⟨bs, rfl, e⟩ := e
    cases p with
    | cons p1 p =>
      cases p
      obtain ⟨a, xs, rfl, ha, r⟩ := p1.lst s
      cases dvs_bl bs r
      exact ⟨a, bs, rfl, SqL.of ha, q _ _ _ _ e (.refl s) (.bl _)⟩
  · exact e.elim
/-! ### texts -/
def strsOf : List (Dat Ω) → Option (List Str)
  | [] => some []
  | .str z :: r => (strsOf r).map (z :: ·)
  | _ => none
theorem dvs_str {g : Gh Ω} : ∀ {vs : List V} {ds : List (Dat Ω)} {bs : List Str}, DVs K g vs ds → strsOf ds = some bs → vs = bs.map V.str
  | _, _, bs, .nil, e => by
    cases e
    rfl
  | _, _, bs, .cons (d := d) (ds := ds) h r, e => by
    cases h with
    | str b =>
      unfold strsOf at e
      cases h2 : strsOf ds with
      | none => rw [h2] at e; cases e
      | some cs =>
        rw [h2] at e
        cases e
        rw [dvs_str r h2]
        rfl
    | _ => cases e
def fJoin : FD Ω
  | [.str a, .lst ds], k => ∃ ys, strsOf ds = some ys ∧ (ys.map (·.length)).sum + ys.length * a.length ≤ 16777216 ∧ k (.str (Txt.join a ys))
  | _, _ => False
/-- a method of a text, one argument -/
def tMS (T : DE Ω) (As : List (Opn Ω)) (f : FD Ω) : DE Ω := fun γ q => T γ fun a γ1 => match a with
  | .str z => evL As γ1 fun os γ2 => late As os γ2 fun ds => f (.str z :: ds) fun r => q r γ2
  | _ => False
def rcv (r : V → List V → Hp → VK → Prop) : List V → Hp → VK → Prop := fun vs H Q => match vs with
  | x :: xs => r x xs H Q
  | _ => False
theorem pd_m1 {X : Cx} {e : Expr} {T : DE Ω} {B : Opn Ω} {r : V → List V → Hp → VK → Prop} {f : FD Ω} (h : PE X e (tM1 r (up K W T) (upO K W B))) (od : OpD K W (rcv r) f) : PE X e (up K W (tMS T [B] f)) := PEc h fun σ H Q ⟨F, g, γ, q, R, t, k⟩ =>
  ⟨F, g, γ, _, R, t, fun d γ1 v H1 g1 h1 le1 R1 dv => by
    split at h1
    · rename_i z
      cases dv
      refine ⟨⟨z, rfl⟩, ?_⟩
      have := ev_sound [B] R1 h1 (Q := fun vs H' => r (.str z) vs H' Q) fun os γ' g' vs H' l le R' tm => by
        obtain ⟨ds, hf, pv⟩ := late_sound R' tm l
        exact od g' H' (.str z :: vs) (.str z :: ds) _ Q R'.sub (.cons (.dat (.str z)) pv) hf fun y w g2 H2 hz G dv => k y γ' w H2 g2 hz ((le1.tr le).tr G.le) (R'.grow G) dv
      exact this
    · exact h1.elim⟩
theorem pd_bmS {X : Cx} {e : Expr} {T : DE Ω} {As : List (Opn Ω)} {r : V → List V → Hp → VK → Prop} {f : FD Ω} (h : PE X e (tBM X.K "str" r (up K W T) (upA K W As))) (od : OpD K W (rcv r) f) : PE X e (up K W (tMS T As f)) := PEc h fun σ H Q ⟨F, g, γ, q, R, t, k⟩ =>
  ⟨F, g, γ, _, R, t, fun d γ1 v H1 g1 h1 le1 R1 dv => by
    split at h1
    · rename_i z
      cases dv
      refine ⟨rfl, ?_⟩
      exact ev_sound As R1 h1 (Q := fun vs H' => r (.str z) vs H' Q) fun os γ' g' vs H' l le R' tm => by
        obtain ⟨ds, hf, pv⟩ := late_sound R' tm l
        exact od g' H' (.str z :: vs) (.str z :: ds) _ Q R'.sub (.cons (.dat (.str z)) pv) hf fun y w g2 H2 hz G dv => k y γ' w H2 g2 hz ((le1.tr le).tr G.le) (R'.grow G) dv
    · exact h1.elim⟩
theorem od_join : OpD K W (rcv fun x xs H Q => ∃ a p, ∃ ys : List Str, x = .str a ∧ xs = [.ref p] ∧ (SqL K H p (ys.map V.str) ∨ SqT K H p (ys.map V.str)) ∧ (ys.map (·.length)).sum + ys.length * a.length ≤ 16777216 ∧ Q (.str (Txt.join a ys)) H) fJoin := by
  intro g H vs ds k Q s p e q
  unfold fJoin at e
  split at e
  · obtain ⟨ys, hy, e⟩ := e
    cases p with
    | cons p1 p =>
      cases p with
      | cons p2 p =>
        cases p
        cases p1.str
        obtain ⟨a, xs, rfl, ha, r⟩ := p2.lst s
        cases dvs_str r hy
        exact ⟨_, a, ys, rfl, rfl, .inl (SqL.of ha), e.1, q _ _ _ _ e.2 (.refl s) (.str _)⟩
  · exact e.elim
/-- s.index(t): it stands there -/
def fIndex : FD Ω
  | [.str a, .str b], k => ∃ (i : Nat) (rest : List Nat), Builtin.Str.occurrences a b 0 a.length 1 = i :: rest ∧ k (.int (i : Int))
  | _, _ => False
theorem od_index : OpD K W (rcv fun x xs H Q => ∃ a b i rest, x = .str a ∧ xs = [.str b] ∧ Builtin.Str.occurrences a b 0 a.length 1 = i :: rest ∧ Q (.int (i : Nat)) H) fIndex := by
  intro g H vs ds k Q s p e q
  unfold fIndex at e
  split at e
  · obtain ⟨i, rest, ho, e⟩ := e
    cases p with | cons p1 p => cases p with | cons p2 p => cases p; cases p1.str; cases p2.str; exact ⟨_, _, i, rest, rfl, rfl, ho, q _ _ _ _ e (.refl s) (.int _)⟩
  · exact e.elim
/-! ### comprehensions, as written -/
theorem PTsc {X : Cx} {e : List Expr} {t t' : TT} (h : PTs X e t) (k : ∀ σ H Q, t' σ H Q → t σ H Q) : PTs X e t' := ⟨fun pins s σ H Q I q => h.run pins s σ H Q I (k σ H Q q)⟩
def dYes : DT Ω := fun γ q => q true γ
theorem pts0 {X : Cx} : PTs X [] (upT K W dYes) := PTsc pts_nil fun σ H Q ⟨F, g, γ, q, R, t, k⟩ => k true γ H g t (.refl g) R
theorem pts1 {X : Cx} {c : Expr} {t : DT Ω} (h : PT X c (upT K W t)) : PTs X [c] (upT K W t) := pts_one h
section
variable {X : Cx} {elt tg iter : Expr} {ifs : List Expr} {scope : Scope} {own : List (Str × Nat)} {pos spos py : Pos} {TI : DI Ω} {G : DG Ω} {t : DT Ω} {T : DE Ω} {ix : List Nat} {i : Nat} {y : Str}
theorem pf_lc (hc : X.calm = true) (hN : X.N.Nodup) (hi : PI X tg iter (upI K W TI)) (ok : BlkOk X.N X.env.scope scope own)
    (hg : ∀ (s : Shared) (H : Hp) (C : Addr) (cl : List (Str × Addr)) (fp : List Addr), PG (X.blk s H scope (compEnvC scope cl C X.env) fp) tg (upG K W ix G)) (ht : ∀ (s : Shared) (H : Hp) (C : Addr) (cl : List (Str × Addr)) (fp : List Addr), PTs (X.blk s H scope (compEnvC scope cl C X.env) fp) ifs (upT K W t))
    (he : ∀ (s : Shared) (H : Hp) (C : Addr) (cl : List (Str × Addr)) (fp : List Addr), PE (X.blk s H scope (compEnvC scope cl C X.env) fp) elt (up K W T)) (hin : ∀ i ∈ ix, i ∈ own.map (·.2) := by decide) (hs : ∀ x, foldedSetIterable iter X.env x = pure x := by intro _; rfl) :
    PE X (.ListComp elt [⟨tg, iter, ifs, 0⟩] scope pos) (upF K W (dComp (own.map (·.2)) TI G t T)) := PEc (pe_lc hc hN hi ok hg ht he hs) (lc_up hin)
theorem ds_setLc (hc : X.calm = true) (hN : X.N.Nodup) (hy : X.N[i]? = some y) (hyl : X.env.scope.names.lookup y = some .local)
    (hsw : swapsWith (.ListComp elt [⟨tg, iter, ifs, 0⟩] scope pos) (some (.Name y py)) spos.line X.env = pure true) (hi : PI X tg iter (upI K W TI)) (ok : BlkOk X.N X.env.scope scope own)
    (hg : ∀ (s : Shared) (H : Hp) (C : Addr) (cl : List (Str × Addr)) (fp : List Addr), PG (X.blk s H scope (compEnvC scope cl C X.env) fp) tg (upG K W ix G)) (ht : ∀ (s : Shared) (H : Hp) (C : Addr) (cl : List (Str × Addr)) (fp : List Addr), PTs (X.blk s H scope (compEnvC scope cl C X.env) fp) ifs (upT K W t))
    (he : ∀ (s : Shared) (H : Hp) (C : Addr) (cl : List (Str × Addr)) (fp : List Addr), PE (X.blk s H scope (compEnvC scope cl C X.env) fp) elt (up K W T)) (hin : ∀ i ∈ ix, i ∈ own.map (·.2) := by decide) (hs : ∀ x, foldedSetIterable iter X.env x = pure x := by intro _; rfl) :
    PS X (.Assign [.Name y py] (.ListComp elt [⟨tg, iter, ifs, 0⟩] scope pos) spos) (tAsg (upF K W (dComp (own.map (·.2)) TI G t T)) (gName i)) := PSc (ps_setLc hc hN hy hyl hsw hi ok hg ht he hs) fun D σ H h => lc_up hin σ H _ h
end
/-- upF as up, in a store -/
theorem asg_up {T : DE Ω} {g : TG} {D : Ends} {σ : L2.St} {H : Hp} (h : tAsg (up K W T) g D σ H) : tAsg (upF K W T) g D σ H := by
  obtain ⟨F, g0, γ, q, R, t, k⟩ := h
  exact ⟨F, g0, γ, q, R, t, fun zs γ' ws L H1 g1 hq le R1 n r => by
    have G2 := Grow.dat (p := L) (o := .lst ws) R1.sub n
    exact k _ γ' _ _ _ hq (le.tr G2.le) (R1.grow G2) (.lst gup_same (r.more G2.le))⟩
theorem ps_fd {X : Cx} {st : Stmt} {T : DE Ω} {g : TG} (h : PS X st (tAsg (upF K W T) g)) : PS X st (tAsg (up K W T) g) := PSc h fun D σ H q => asg_up q
end
end DL
set_option Elab.async false
set_option linter.all false
set_option maxRecDepth 100000
set_option maxHeartbeats 4000000
namespace DL
open PySem PySem.Spec PyProof.Rows L2 Nv
section
variable {Ω : Type}
/-- a comprehension whose turns leave the state as it is -/
theorem dl_fm {ds : List (Dat Ω)} {γ1 γ0 : Gam Ω} {vs : List Nat} {G : DG Ω} {t : DT Ω} {T : DE Ω} {q : Dat Ω → Gam Ω → Prop} (f : Dat Ω → Option (Dat Ω)) (h0 : wipeG γ1 vs = γ0) (hl : ds.length ≤ sizeLine)
    (turn : ∀ (i : Nat) (d : Dat Ω), ds[i]? = some d → ∀ (acc : List (Dat Ω)) (R : List (Dat Ω) → Gam Ω → Prop), (∀ y, f d = some y → acc.length < sizeLine ∧ R (acc ++ [y]) γ0) → (f d = none → R acc γ0) →
      G d γ0 fun γ2 => t γ2 fun b γ3 => if b = true then T γ3 fun y γ4 => acc.length < sizeLine ∧ R (acc ++ [y]) (wipeG γ4 vs) else R acc (wipeG γ3 vs)) (hq : q (.lst (ds.filterMap f)) γ0) :
    compD vs G t T q ds γ1 := by
  have step : ∀ (i : Nat) (d : Dat Ω), ds[i]? = some d → (ds.take (i + 1)).filterMap f = (ds.take i).filterMap f ++ (match f d with | some y => [y] | none => []) := fun i d h => by
    rw [List.take_add_one, h, List.filterMap_append]
    congr 1
    simp only [Option.toList_some, List.filterMap_cons, List.filterMap_nil]
    cases f d <;> rfl
  refine ⟨⟨fun i acc γ => γ = γ0 ∧ acc = (ds.take i).filterMap f, ⟨h0, rfl⟩, fun i d acc γ hd ⟨e1, e2⟩ => ?_, fun acc γ ⟨e1, e2⟩ => ?_⟩⟩
  · subst e1
    have hi : i < ds.length := (List.getElem?_eq_some_iff.mp hd).1
    have la : acc.length < sizeLine := by
      have h1 : acc.length ≤ (ds.take i).length := by rw [e2]; exact List.length_filterMap_le _ _
      rw [List.length_take] at h1
      omega
    refine turn i d hd acc (fun acc' γ' => γ' = γ ∧ acc' = (ds.take (i + 1)).filterMap f) (fun y hy => ⟨la, rfl, ?_⟩) fun hn => ⟨rfl, ?_⟩
    · rw [step i d hd, hy, e2]
    · rw [step i d hd, hn, e2, List.append_nil]
  · subst e1 e2
    rw [List.take_length]
    exact hq
/-- .. that keeps all -/
theorem dl_map {ds : List (Dat Ω)} {γ1 γ0 : Gam Ω} {vs : List Nat} {G : DG Ω} {T : DE Ω} {q : Dat Ω → Gam Ω → Prop} (f : Dat Ω → Dat Ω) (h0 : wipeG γ1 vs = γ0) (hl : ds.length ≤ sizeLine)
    (turn : ∀ (i : Nat) (d : Dat Ω), ds[i]? = some d → ∀ (R : Dat Ω → Gam Ω → Prop), R (f d) γ0 → G d γ0 fun γ2 => T γ2 fun y γ4 => R y (wipeG γ4 vs)) (mono : ∀ (d : Dat Ω) γ (P Q : Gam Ω → Prop), (∀ γ, P γ → Q γ) → G d γ P → G d γ Q := by intro _ _ _ _ h x; exact h _ x) (hq : q (.lst (ds.map f)) γ0) :
    compD vs G dYes T q ds γ1 := by
  refine dl_fm (fun d => some (f d)) h0 hl (fun i d hd acc R k _ => ?_) (by
    have : ds.filterMap (fun d => some (f d)) = ds.map f := by rw [List.filterMap_eq_map']
    rw [this]
    exact hq)
  refine mono d γ0 _ _ (fun γ h => ?_) (turn i d hd (fun y γ => acc.length < sizeLine ∧ R (acc ++ [y]) γ) (k _ rfl))
  exact h
theorem pd_dnew {K : PySem.W.Frag} {W : Obs Ω} {X : Cx} {pos : Pos} : PE X (.Dict [] [] pos) (up K W (tC' (.dK [] []))) := PEc pe_dnewK fun σ H Q ⟨F, g, γ, q, R, t, k⟩ => fun d n => by
  have G := Grow.dat (p := d) (o := .dK []) R.sub n
  exact k _ γ _ _ _ t G.le (R.grow G) (.dK (xs := []) gup_same rfl .nil)
end
end DL
set_option Elab.async false
set_option linter.all false
set_option maxRecDepth 100000
set_option maxHeartbeats 4000000
namespace DL
open PySem PySem.Spec PyProof.Rows L2 Nv
/-! What an expression comes to, its continuation a letter: so that the kernel never looks into the rest of a program. -/
section
variable {Ω : Type} {T U V : DE Ω} {Ts : List (DE Ω)} {As : List (Opn Ω)} {f : FD Ω} {γ γ1 γ2 γ' : Gam Ω} {d e z : Dat Ω} {ds : List (Dat Ω)} {i j : Nat}
def Ev (T : DE Ω) (γ : Gam Ω) (d : Dat Ω) (γ' : Gam Ω) : Prop := ∀ q : Dat Ω → Gam Ω → Prop, q d γ' → T γ q
def EvK (Ts : List (DE Ω)) (γ : Gam Ω) (ds : List (Dat Ω)) (γ' : Gam Ω) : Prop := ∀ q : List (Dat Ω) → Gam Ω → Prop, q ds γ' → evK Ts γ q
def EvA (As : List (Opn Ω)) (γ : Gam Ω) (ds : List (Dat Ω)) : Prop := ∀ q : List (Dat Ω) → Gam Ω → Prop, q ds γ → evL As γ fun os γ' => late As os γ' fun ds => q ds γ'
def EvT (t : DT Ω) (γ : Gam Ω) (b : Bool) (γ' : Gam Ω) : Prop := ∀ q : Bool → Gam Ω → Prop, q b γ' → t γ q
def FEv (f : FD Ω) (ds : List (Dat Ω)) (z : Dat Ω) : Prop := ∀ k : Dat Ω → Prop, k z → f ds k
theorem ev_c : Ev (tC' d) γ d γ := fun q h => h
theorem ev_n (h : γ[i]? = some (some (.dat d))) : Ev (tN i) γ d γ := fun q k => by
  unfold tN
  rw [h]
  exact k
theorem ev_own {ds : List (Dat Ω)} (h : γ[i]? = some (some (.own ds))) (h2 : γ.set i (some (.dat (.lst ds))) = γ') : Ev (tN i) γ (.lst ds) γ' := fun q k => by
  unfold tN
  rw [h]
  simp only [h2]
  exact k
theorem evk0 : EvK ([] : List (DE Ω)) γ [] γ := fun q h => h
theorem evk1 (h : Ev T γ d γ1) (k : EvK Ts γ1 ds γ2) : EvK (T :: Ts) γ (d :: ds) γ2 := fun q r => h _ (k _ r)
theorem ev_ks (h : EvK Ts γ ds γ') (k : FEv f ds z) : Ev (tKs Ts f) γ z γ' := fun q r => h _ (k _ r)
theorem eva0 : EvA ([] : List (Opn Ω)) γ [] := fun q h => h
theorem evL_mono : ∀ (As : List (Opn Ω)) {γ : Gam Ω} {r r' : List (Option (Dat Ω)) → Gam Ω → Prop}, (∀ o ∈ As, ∀ T, o = .ex T → ∀ γ (q q' : Dat Ω → Gam Ω → Prop), (∀ d γ, q d γ → q' d γ) → T γ q → T γ q') → (∀ os γ, r os γ → r' os γ) → evL As γ r → evL As γ r'
  | [], γ, r, r', _, h, e => h _ _ e
  | .nm i :: As, γ, r, r', m, h, e => by
    unfold evL at e ⊢
    split at e
    · exact evL_mono As (fun o ho => m o (List.mem_cons_of_mem _ ho)) (fun os γ' q => h _ _ q) e
    · exact e.elim
  | .ex T :: As, γ, r, r', m, h, e => by
    unfold evL at e ⊢
    exact m _ List.mem_cons_self T rfl γ _ _ (fun d γ1 q => evL_mono As (fun o ho => m o (List.mem_cons_of_mem _ ho)) (fun os γ' q => h _ _ q) q) e
theorem eva_nm (h : sd γ[i]? = some d) (k : EvA As γ ds) : EvA (.nm i :: As) γ (d :: ds) := fun q r => by
  unfold evL
  have hs : ∃ s, γ[i]? = some (some s) := by
    cases e : γ[i]? with
    | none => rw [e] at h; cases h
    | some o =>
      cases o with
      | none => rw [e] at h; cases h
      | some s => exact ⟨s, rfl⟩
  obtain ⟨s, hs⟩ := hs
  rw [hs]
  show evL As γ fun os γ' => late (.nm i :: As) (none :: os) γ' fun ds => q ds γ'
  have := k (fun ds' γ' => ds' = ds ∧ γ' = γ) ⟨rfl, rfl⟩
  exact (k fun ds' γ' => (match sd γ'[i]? with | some d => q (d :: ds') γ' | none => False)) (by simp only [h]; exact r) |> fun z => by
    have e : (fun (os : List (Option (Dat Ω))) (γ' : Gam Ω) => late As os γ' fun ds' => (match sd γ'[i]? with | some d => q (d :: ds') γ' | none => False)) = fun os γ' => late (.nm i :: As) (none :: os) γ' fun ds => q ds γ' := by
      funext os γ'
      conv => rhs; unfold late
      cases hh : sd γ'[i]? with
      | some d => rfl
      | none =>
        simp only
        refine propext ⟨fun z => ?_, fun z => z.elim⟩
        have lf : ∀ (As : List (Opn Ω)) (os : List (Option (Dat Ω))) (γ : Gam Ω), (late As os γ fun _ => False) → False := by
          intro As
          induction As with
          | nil =>
            intro os γ h
            cases os with
            | nil => exact h
            | cons _ _ => exact h
          | cons o As ih =>
            intro os γ h
            cases os with
            | nil => cases o <;> exact h
            | cons p os =>
              cases o with
              | nm j =>
                unfold late at h
                split at h
                · exact ih _ _ h
                · exact h
              | ex T =>
                cases p with
                | none => exact h
                | some d =>
                  unfold late at h
                  exact ih _ _ h
        exact lf _ _ _ z
    rw [e] at z
    exact z
theorem eva_ex (h : Ev T γ d γ) (k : EvA As γ ds) : EvA (.ex T :: As) γ (d :: ds) := fun q r => by
  unfold evL
  refine h _ ?_
  have z := k (fun ds' γ' => q (d :: ds') γ') r
  exact z
theorem ev_ops (h : EvA As γ ds) (k : FEv f ds z) : Ev (tOps As f) γ z γ := fun q r => h (fun ds γ' => f ds fun z => q z γ') (k _ r)
theorem evt_b (h : Ev T γ (.bl true) γ') : EvT (tB' T) γ true γ' := fun q r => h _ r
theorem evt_v {b : Bool} (h : Ev T γ (.bl b) γ') : EvT (tB' T) γ b γ' := fun q r => h _ r
theorem evt_not {t : DT Ω} {b : Bool} (h : EvT t γ b γ') : EvT (dNot t) γ (!b) γ' := fun q r => h _ r
theorem evt_and {t u : DT Ω} {b c : Bool} (h : EvT t γ b γ1) (k : b = true → EvT u γ1 c γ') (k0 : b = false → c = false ∧ γ1 = γ') : EvT (dAnd t u) γ c γ' := fun q r => h _ (by
  cases b with
  | true => exact k rfl _ r
  | false =>
    obtain ⟨e1, e2⟩ := k0 rfl
    subst e1 e2
    exact r)
theorem evt_or {t u : DT Ω} {b c : Bool} (h : EvT t γ b γ1) (k : b = false → EvT u γ1 c γ') (k0 : b = true → c = true ∧ γ1 = γ') : EvT (dOr t u) γ c γ' := fun q r => h _ (by
  cases b with
  | false => exact k rfl _ r
  | true =>
    obtain ⟨e1, e2⟩ := k0 rfl
    subst e1 e2
    exact r)
theorem ev_ch {h h' : Int → Int → Bool} {i j k : Int} (a : Ev T γ (.int i) γ) (b : Ev U γ (.int j) γ) (c : Ev V γ (.int k) γ) : Ev (dChain h h' T U V) γ (.bl (h i j && h' j k)) γ := fun q r => a _ (b _ (by
  show if h i j = true then _ else _
  cases e : h i j with
  | true =>
    rw [if_pos rfl]
    rw [e, Bool.true_and] at r
    exact c _ r
  | false =>
    rw [if_neg (by decide)]
    rw [e, Bool.false_and] at r
    exact r))
theorem ev_ifT {t : DT Ω} (h : EvT t γ true γ1) (k : Ev T γ1 d γ') : Ev (dIf t T U) γ d γ' := fun q r => h _ (by rw [if_pos rfl]; exact k _ r)
theorem ev_ifF {t : DT Ω} (h : EvT t γ false γ1) (k : Ev U γ1 d γ') : Ev (dIf t T U) γ d γ' := fun q r => h _ (by rw [if_neg (by decide)]; exact k _ r)
/-! statements -/
variable {S S2 : DS Ω} {D : EndsD Ω}
def Es (S : DS Ω) (γ γ' : Gam Ω) : Prop := ∀ D : EndsD Ω, D.nx γ' → S D γ
theorem sq (h : Es S γ γ') (k : S2 D γ') : dSeq S S2 D γ := h _ k
theorem es_set (h : Ev T γ d γ1) (e : γ1.set i (some (.dat d)) = γ') : Es (dSet i T) γ γ' := fun D r => h _ (by rw [e]; exact r)
theorem es_setF (h : Ev T γ (.lst ds) γ1) (e : γ1.set i (some (.own ds)) = γ') : Es (dSetF i T) γ γ' := fun D r => h _ (by show D.nx (γ1.set i (some (.own ds))); rw [e]; exact r)
theorem es_app {es : List (Dat Ω)} (h0 : γ[i]? = some (some (.own es))) (h : Ev T γ d γ) (hl : es.length < sizeLine) (e : γ.set i (some (.own (es ++ [d]))) = γ') : Es (dApp i T) γ γ' := fun D r => by
  unfold dApp
  rw [h0]
  refine h _ ?_
  show match γ[i]? with | some (some (.own ds)) => ds.length < sizeLine ∧ D.nx (γ.set i (some (.own (ds ++ [d])))) | _ => False
  rw [h0]
  exact ⟨hl, by rw [e]; exact r⟩
theorem es_par (h : Ev T γ d γ1) (k : Ev U γ1 e γ2) (eq : (γ2.set i (some (.dat d))).set j (some (.dat e)) = γ') : Es (dPar i j T U) γ γ' := fun D r => h _ (k _ (by rw [eq]; exact r))
theorem es_asg {G : DG Ω} (h : Ev T γ d γ1) (k : ∀ q : Gam Ω → Prop, q γ' → G d γ1 q) : Es (dAsg T G) γ γ' := fun D r => h _ (k _ r)
theorem es_drop (h : Ev T γ d γ') : Es (dDrop T) γ γ' := fun D r => h _ r
theorem rd_ret (h : Ev T γ d γ') (k : D.rt d γ') : dRet T D γ := h _ k
theorem rd_if {t : DT Ω} {b : Bool} (h : EvT t γ b γ1) (k1 : b = true → S D γ1) (k2 : b = false → S2 D γ1) : dIfS t S S2 D γ := h _ (by
  cases b with
  | true => rw [if_pos rfl]; exact k1 rfl
  | false => rw [if_neg (by decide)]; exact k2 rfl)
/-- an if whose way through comes to the rest as well -/
theorem sq_if {t : DT Ω} {b : Bool} {S3 : DS Ω} (h : EvT t γ b γ1) (k1 : b = true → S { D with nx := S3 D } γ1) (k2 : b = false → S2 { D with nx := S3 D } γ1) : dSeq (dIfS t S S2) S3 D γ := rd_if h k1 k2
theorem sq_next (k : S2 D γ) : dNext { D with nx := S2 D } γ := k
/-- take, into a name -/
theorem sq_take {i k : Nat} {p : Addr} {m : Nat} {many : Int} (h : γ[i]? = some (some (.box p m))) (h1 : Ev T γ (.int many) γ) (c : m ≤ 1000000 ∧ 0 < many ∧ many ≤ 100000)
    (go : ∀ r, 0 ≤ r → r < many → S2 D ((γ.set i (some (.box p (m + 1)))).set k (some (.dat (.int r))))) : dSeq (dSet k (tTk i T)) S2 D γ := by
  show tTk i T γ fun d γ' => S2 D (γ'.set k (some (.dat d)))
  unfold tTk
  rw [h]
  refine h1 _ ?_
  show match (Dat.int many : Dat Ω), γ[i]? with | .int many, some (some (.box p m)) => _ | _, _ => False
  rw [h]
  exact ⟨c, fun r r0 r1 => go r r0 r1⟩
/-- take, anywhere -/
theorem ap_take {i : Nat} {p : Addr} {m : Nat} {many : Int} {q : Dat Ω → Gam Ω → Prop} (h : γ[i]? = some (some (.box p m))) (h1 : Ev T γ (.int many) γ) (c : m ≤ 1000000 ∧ 0 < many ∧ many ≤ 100000)
    (go : ∀ r, 0 ≤ r → r < many → q (.int r) (γ.set i (some (.box p (m + 1))))) : tTk i T γ q := by
  unfold tTk
  rw [h]
  refine h1 _ ?_
  show match (Dat.int many : Dat Ω), γ[i]? with | .int many, some (some (.box p m)) => _ | _, _ => False
  rw [h]
  exact ⟨c, fun r r0 r1 => go r r0 r1⟩
theorem ev_use {q : Dat Ω → Gam Ω → Prop} (h : Ev T γ d γ') (k : q d γ') : T γ q := h q k
theorem fe_use {q : Dat Ω → Prop} (h : FEv f ds z) (k : q z) : f ds q := h q k
theorem nd_ops2 {q : Dat Ω → Gam Ω → Prop} (h : T γ fun a γ1 => U γ1 fun b γ2 => f [a, b] fun z => q z γ2) : tOps [.ex T, .ex U] f γ q := h
theorem nd_ks1 {q : Dat Ω → Gam Ω → Prop} (h : T γ fun a γ1 => f [a] fun z => q z γ1) : tKs [T] f γ q := h
theorem nd_opsN {q : Dat Ω → Gam Ω → Prop} {s : Sl Ω} (h0 : γ[i]? = some (some s)) (mono : ∀ (p p' : Dat Ω → Gam Ω → Prop), (∀ d γ, p d γ → p' d γ) → T γ p → T γ p') (h : T γ fun a γ1 => ∃ d, sd γ1[i]? = some d ∧ f [d, a] fun z => q z γ1) : tOps [.nm i, .ex T] f γ q := by
  show evL [.nm i, .ex T] γ _
  unfold evL
  rw [h0]
  refine mono _ _ (fun a γ1 ⟨d, e, z⟩ => ?_) h
  show match sd γ1[i]? with | some d => _ | none => False
  rw [e]
  exact z
theorem nd_ks2 {q : Dat Ω → Gam Ω → Prop} (h : T γ fun a γ1 => U γ1 fun b γ2 => f [a, b] fun z => q z γ2) : tKs [T, U] f γ q := h
theorem sq_setN (h : T γ fun d γ' => S2 D (γ'.set i (some (.dat d)))) : dSeq (dSet i T) S2 D γ := h
theorem sq_ifN {t : DT Ω} {S3 : DS Ω} (h : t γ fun b γ1 => if b = true then S { D with nx := S3 D } γ1 else S2 { D with nx := S3 D } γ1) : dSeq (dIfS t S S2) S3 D γ := h
theorem nd_b {q : Bool → Gam Ω → Prop} (h : T γ fun d γ' => match d with | .bl b => q b γ' | _ => False) : tB' T γ q := h
theorem take_mono {n : Int} : ∀ (p p' : Dat Ω → Gam Ω → Prop), (∀ d γ, p d γ → p' d γ) → tTk i (tC' (.int n)) γ p → tTk i (tC' (.int n)) γ p' := fun p p' h e => by
  unfold tTk at e ⊢
  split at e
  · show match (Dat.int n : Dat Ω), γ[i]? with | .int many, some (some (.box p m)) => _ | _, _ => False
    have e : match (Dat.int n : Dat Ω), γ[i]? with | .int many, some (some (.box p m)) => _ | _, _ => False := e
    split at e
    · exact ⟨e.1, fun r r0 r1 => h _ _ (e.2 r r0 r1)⟩
    · exact e.elim
  · exact e.elim
/-! what operations come to -/
theorem fe_lst (h : ds.length ≤ sizeLine) : FEv fLst ds (.lst ds) := fun k r => ⟨h, r⟩
theorem fe_tup (h : ds.length ≤ sizeLine) : FEv fTup ds (.tup ds) := fun k r => ⟨h, r⟩
theorem fe_addI {a b : Int} : FEv (Ω := Ω) fAdd [.int a, .int b] (.int (a + b)) := fun k r => r
theorem fe_addS {a b : Str} (h : a.length + b.length ≤ sizeLine) : FEv (Ω := Ω) fAdd [.str a, .str b] (.str (a ++ b)) := fun k r => ⟨h, r⟩
theorem fe_addL {a b : List (Dat Ω)} (h : a.length + b.length ≤ sizeLine) : FEv fAdd [.lst a, .lst b] (.lst (a ++ b)) := fun k r => ⟨h, r⟩
theorem fe_addT {a b : List (Dat Ω)} (h : a.length + b.length ≤ sizeLine) : FEv fAdd [.tup a, .tup b] (.tup (a ++ b)) := fun k r => ⟨h, r⟩
theorem fe_I0 {h : Int → Int → Int} {a b : Int} : FEv (Ω := Ω) (fI20 h) [.int a, .int b] (.int (h a b)) := fun k r => r
theorem fe_I {C : Int → Int → Prop} {h : Int → Int → Int} {a b : Int} (c : C a b) : FEv (Ω := Ω) (fI2 C h) [.int a, .int b] (.int (h a b)) := fun k r => ⟨c, r⟩
theorem fe_B {h : Int → Int → Bool} {a b : Int} : FEv (Ω := Ω) (fB20 h) [.int a, .int b] (.bl (h a b)) := fun k r => r
theorem fe_neg {a : Int} : FEv (Ω := Ω) fNeg [.int a] (.int (-a)) := fun k r => r
theorem fe_abs {a : Int} : FEv (Ω := Ω) fAbs [.int a] (.int (if a < 0 then -a else a)) := fun k r => r
theorem fe_eqI {a b : Int} : FEv (Ω := Ω) fEq [.int a, .int b] (.bl (decide (a = b))) := fun k r => r
theorem fe_neI {a b : Int} : FEv (Ω := Ω) fNe [.int a, .int b] (.bl (!decide (a = b))) := fun k r => r
theorem fe_eqS {a b : Str} : FEv (Ω := Ω) fEq [.str a, .str b] (.bl (decide (a = b))) := fun k r => r
theorem fe_neS {a b : Str} : FEv (Ω := Ω) fNe [.str a, .str b] (.bl (!decide (a = b))) := fun k r => r
theorem fe_ixL {i : Int} (h : atI ds i = some d) : FEv fIx [.lst ds, .int i] d := fun k r => ⟨d, h, r⟩
theorem fe_ixT {i : Int} (h : atI ds i = some d) : FEv fIx [.tup ds, .int i] d := fun k r => ⟨d, h, r⟩
theorem fe_ixS {z : Str} {i : Int} {c : Nat} (l : z.length ≤ sizeLine) (h : atI z.cps.toList i = some c) : FEv (Ω := Ω) fIx [.str z, .int i] (.str ⟨#[c]⟩) := fun k r => ⟨l, c, h, r⟩
theorem fe_lenL : FEv fLen [.lst ds] (.int ds.length) := fun k r => r
theorem fe_lenT : FEv fLen [.tup ds] (.int ds.length) := fun k r => r
theorem fe_lenS {z : Str} (l : z.length ≤ sizeLine) : FEv (Ω := Ω) fLen [.str z] (.int z.length) := fun k r => ⟨l, r⟩
theorem fe_listT : FEv fListOf [.tup ds] (.lst ds) := fun k r => r
theorem fe_listL : FEv fListOf [.lst ds] (.lst ds) := fun k r => r
theorem fe_tupL : FEv fTupOf [.lst ds] (.tup ds) := fun k r => r
theorem fe_isN {n : Bool} : FEv (fIsN n) [d, .non] (.bl (if n then !isNon d else isNon d)) := fun k r => r
theorem fe_slLT {a : Int} : FEv fSlL [.tup ds, .int a] (.tup (DL.cutD ds (some a) none)) := fun k r => r
theorem fe_slHT {a : Int} : FEv fSlH [.tup ds, .int a] (.tup (DL.cutD ds none (some a))) := fun k r => r
theorem fe_slLL {a : Int} : FEv fSlL [.lst ds, .int a] (.lst (DL.cutD ds (some a) none)) := fun k r => r
theorem fe_slHL {a : Int} : FEv fSlH [.lst ds, .int a] (.lst (DL.cutD ds none (some a))) := fun k r => r
theorem fe_slLS {z : Str} {a : Int} (l : z.length ≤ sizeLine) : FEv (Ω := Ω) fSlL [.str z, .int a] (.str (cutS z (some a) none)) := fun k r => ⟨l, r⟩
theorem fe_slHS {z : Str} {a : Int} (l : z.length ≤ sizeLine) : FEv (Ω := Ω) fSlH [.str z, .int a] (.str (cutS z none (some a))) := fun k r => ⟨l, r⟩
theorem sz {n : Nat} (h : Nat.ble n 100000 = true := by rfl) : n ≤ sizeLine := Nat.le_trans (Nat.le_of_ble_eq_true h) (by decide)
end
end DL
set_option Elab.async false
set_option linter.all false
set_option maxRecDepth 100000
set_option maxHeartbeats 16000000
namespace DL
open PySem PySem.Spec PyProof.Rows L2 Nv
section
variable {Ω : Type} {K : PySem.W.Frag} {W : Obs Ω} {X : Cx} {st : Stmt} {T U V : DE Ω}
/-- a, b, c = x, y, z -/
def dPar3 (i j l : Nat) (T U V : DE Ω) : DS Ω := fun D γ => T γ fun d γ1 => U γ1 fun e γ2 => V γ2 fun f γ3 => D.nx (((γ3.set i (some (.dat d))).set j (some (.dat e))).set l (some (.dat f)))
theorem ds_par3 {i j l : Nat} (h : PS X st (tPar3 i j l (upK K W [T, U, V]))) : PS X st (upS K W (dPar3 i j l T U V)) := PSc h fun D σ H ⟨F, g, γ, E, R, t, f⟩ =>
  evK_sound [T, U, V] R (r := fun ds γ' => match ds with
    | [d, e, z] => E.nx (((γ'.set i (some (.dat d))).set j (some (.dat e))).set l (some (.dat z)))
    | _ => False) t fun ds γ' g' vs H' hq le R' dvs => by
    cases dvs with
    | nil => exact hq.elim
    | cons h1 r1 =>
      cases r1 with
      | nil => exact hq.elim
      | cons h2 r2 =>
        cases r2 with
        | nil => exact hq.elim
        | cons h3 r3 =>
          cases r3 with
          | nil => exact ⟨_, _, _, rfl, f.nx _ _ H' g' hq le (((R'.setD i h1).setD j h2).setD l h3)⟩
          | cons _ _ => exact hq.elim
end
end DL
set_option Elab.async false
set_option linter.all false
set_option maxRecDepth 100000
set_option maxHeartbeats 16000000
/-! Bounds of what is shown of a datum. -/
namespace Nv
open PySem PySem.Spec PyProof.Rows L2
/-! ### small data are nice -/
mutual
def okD : PyData → Prop
  | .none => True
  | .bool _ => True
  | .int i => i.natAbs < 10 ^ 40
  | .str x => x.length ≤ 100 ∧ ∀ c ∈ x.cps.toList, c < 200
  | .list l => okDs l
  | .tuple l => okDs l
  | .dict l => l = []
def okDs : List PyData → Prop
  | [] => True
  | x :: r => okD x ∧ okDs r
end
mutual
def cap : PyData → Nat
  | .none => 4
  | .bool _ => 5
  | .int _ => 41
  | .str _ => 1002
  | .list l => caps l + 2
  | .tuple l => caps l + 3
  | .dict _ => 2
def caps : List PyData → Nat
  | [] => 0
  | x :: r => cap x + 2 + caps r
end
theorem piled_c (t : Str) (r : List Str) : piled (t :: r) = t.length + 2 + piled r := by simp [piled]
mutual
theorem shown_le : ∀ d : PyData, okD d → d.shown.length ≤ cap d
  | .none, _ => by show _ ≤ 4; decide
  | .bool b, _ => by cases b <;> (show _ ≤ 5; decide)
  | .int i, h => intText_le (by simpa [okD] using h)
  | .str x, h => by
    have h2 : x.length ≤ 100 ∧ ∀ c ∈ x.cps.toList, c < 200 := by simpa [okD] using h
    have := reprText_le (t := x) (by omega) h2.2
    show (reprText x).length ≤ 1002
    omega
  | .list l, h => by
    have h2 : okDs l := by simpa [okD] using h
    have a := listText_le (PyData.shownAll l)
    have b := showns_le l h2
    show (listText (PyData.shownAll l)).length ≤ caps l + 2
    omega
  | .tuple l, h => by
    have h2 : okDs l := by simpa [okD] using h
    have a := tupleText_le (PyData.shownAll l)
    have b := showns_le l h2
    show (tupleText (PyData.shownAll l)).length ≤ caps l + 3
    omega
  | .dict l, h => by
    have h2 : l = [] := by simpa [okD] using h
    subst h2
    show _ ≤ 2
    decide
theorem showns_le : ∀ l : List PyData, okDs l → piled (PyData.shownAll l) ≤ caps l
  | [], _ => by show piled [] ≤ 0; decide
  | x :: r, h => by
    have h2 : okD x ∧ okDs r := by simpa [okDs] using h
    have a := shown_le x h2.1
    have b := showns_le r h2.2
    show piled (x.shown :: PyData.shownAll r) ≤ cap x + 2 + caps r
    rw [piled_c]
    omega
end
mutual
theorem shows_of : ∀ d : PyData, okD d → d.showable = true
  | .none, _ => rfl
  | .bool b, _ => (nice_bl b).shows
  | .int i, h => (nice_int (by simpa [okD] using h)).shows
  | .str x, h => by
    have h2 : x.length ≤ 100 ∧ ∀ c ∈ x.cps.toList, c < 200 := by simpa [okD] using h
    exact (nice_str (by omega) h2.2).shows
  | .list l, h => show_all l (by simpa [okD] using h)
  | .tuple l, h => show_all l (by simpa [okD] using h)
  | .dict l, h => by
    have h2 : l = [] := by simpa [okD] using h
    subst h2
    rfl
theorem show_all : ∀ l : List PyData, okDs l → PyData.showableAll l = true
  | [], _ => rfl
  | x :: r, h => by
    have h2 : okD x ∧ okDs r := by simpa [okDs] using h
    show (x.showable && PyData.showableAll r) = true
    rw [shows_of x h2.1, show_all r h2.2]
    rfl
end
mutual
theorem lay_of : ∀ d : PyData, okD d → d.hasDict = false → d.canLay0 = true
  | .none, _, _ => by simp only [PyData.canLay0]
  | .bool _, _, _ => by simp only [PyData.canLay0]
  | .int _, _, _ => by simp only [PyData.canLay0]
  | .str x, h, _ => by
    have h2 : x.length ≤ 100 ∧ ∀ c ∈ x.cps.toList, c < 200 := by simpa [okD] using h
    have : PyData.strOk x = true := by
      show x.cps.all (· < 0x110000) = true
      rw [Array.all_eq_true']
      intro c hc
      have := h2.2 c (Array.mem_toList_iff.mpr hc)
      exact decide_eq_true (by omega)
    simpa only [PyData.canLay0] using this
  | .list l, h, n => by
    have := lays_of l (by simpa [okD] using h) (by simpa [PyData.hasDict] using n)
    simpa only [PyData.canLay0] using this
  | .tuple l, h, n => by
    have := lays_of l (by simpa [okD] using h) (by simpa [PyData.hasDict] using n)
    simpa only [PyData.canLay0] using this
  | .dict l, h, n => by simp [PyData.hasDict] at n
theorem lays_of : ∀ l : List PyData, okDs l → PyData.hasDictAll l = false → PyData.canLayAll0 l = true
  | [], _, _ => by simp only [PyData.canLayAll0]
  | x :: r, h, n => by
    have h2 : okD x ∧ okDs r := by simpa [okDs] using h
    have n2 : x.hasDict = false ∧ PyData.hasDictAll r = false := by simpa [PyData.hasDictAll] using n
    simp only [PyData.canLayAll0, lay_of x h2.1 n2.1, lays_of r h2.2 n2.2, Bool.and_self]
end
theorem nice_of {d : PyData} (o : okD d) (dp : d.depth ≤ 20) (cp : cap d ≤ 1000000) (n : d.hasDict = false) : Nice d := ⟨shows_of d o, by omega, Nat.le_trans (shown_le d o) (Nat.le_trans cp (by decide)), fun h => by rw [n] at h; cases h⟩
theorem okDs_app : ∀ {a b : List PyData}, okDs a → okDs b → okDs (a ++ b)
  | [], _, _, h => h
  | x :: r, b, h, k => by
    have h2 : okD x ∧ okDs r := by simpa [okDs] using h
    show okDs (x :: (r ++ b))
    have := okDs_app h2.2 k
    simpa [okDs] using And.intro h2.1 this
theorem caps_app : ∀ (a b : List PyData), caps (a ++ b) = caps a + caps b
  | [], b => by show caps b = 0 + caps b; omega
  | x :: r, b => by
    show cap x + 2 + caps (r ++ b) = cap x + 2 + caps r + caps b
    rw [caps_app r b]
    omega
theorem okDs_all : ∀ {l : List PyData}, (∀ x ∈ l, okD x) → okDs l
  | [], _ => trivial
  | x :: r, h => by
    have := okDs_all (l := r) fun y hy => h y (List.mem_cons_of_mem _ hy)
    simpa [okDs] using And.intro (h x List.mem_cons_self) this
theorem caps_all {n : Nat} : ∀ {l : List PyData}, (∀ x ∈ l, cap x ≤ n) → caps l ≤ (n + 2) * l.length
  | [], _ => Nat.zero_le _
  | x :: r, h => by
    have h1 := caps_all (l := r) fun y hy => h y (List.mem_cons_of_mem _ hy)
    have h2 := h x List.mem_cons_self
    show cap x + 2 + caps r ≤ _
    rw [List.length_cons, Nat.mul_add]
    omega
theorem depth_all {n : Nat} : ∀ {l : List PyData}, (∀ x ∈ l, x.depth ≤ n) → PyData.depthAll l ≤ n
  | [], _ => Nat.zero_le _
  | x :: r, h => by
    have h1 := depth_all (l := r) fun y hy => h y (List.mem_cons_of_mem _ hy)
    have h2 := h x List.mem_cons_self
    show max x.depth (PyData.depthAll r) ≤ n
    omega
theorem flat_all : ∀ {l : List PyData}, (∀ x ∈ l, x.hasDict = false) → PyData.hasDictAll l = false
  | [], _ => rfl
  | x :: r, h => by
    show (x.hasDict || PyData.hasDictAll r) = false
    rw [h x List.mem_cons_self, flat_all fun y hy => h y (List.mem_cons_of_mem _ hy)]
    rfl
end Nv
set_option Elab.async false
set_option linter.all false
set_option maxRecDepth 100000
set_option maxHeartbeats 16000000
namespace Y1
open PySem PySem.Spec PyProof.Rows L2 Nv DL
local macro_rules | `(tactic| walk_at "evs") => `(tactic| repeat (first
  | exact ev_c | exact ev_n rfl | exact evk0 | exact eva0 | apply evk1 | apply eva_nm rfl | apply eva_ex | apply ev_ks | apply ev_ops | apply ev_ch | apply evt_v | apply evt_not
  | exact fe_addI | exact fe_I0 | exact fe_B | exact fe_eqI | exact fe_neI | exact fe_eqS | exact fe_neS | exact fe_neg | exact fe_abs | exact fe_lst sz | exact fe_tup sz | exact fe_lenL | exact fe_lenT | exact fe_listL | exact fe_listT | exact fe_tupL | exact fe_isN | exact fe_ixT rfl | exact fe_ixL rfl | exact fe_slLT | exact fe_slHT | exact fe_slLL | exact fe_slHL))

abbrev D0 := Dat Empty
def W0 : Obs Empty := ⟨fun _ _ _ => False, fun _ h => h⟩
theorem fn_weak {P : Program} {w : World} {K : PySem.W.Frag} {mg : Str → Option Value} {base : Heap} {CX : CXT} {k : Nat} {f : Addr} {fd : FuncData} {ps : List Str} {sp sp' : Sp} (F : FnOk P w K mg base CX k f fd ps sp) (h : ∀ vs H Q E, sp' vs H Q E → sp vs H Q E) : FnOk P w K mg base CX k f fd ps sp' :=
  ⟨fun vs H Q E z => F.len vs H Q E (h _ _ _ _ z), fun A outer s H args us vs Q E a b c d e => F.run A outer s H args us vs Q E a b c d (h _ _ _ _ e)⟩
theorem take_weak : ∀ vs H Q E, spTk vs H Q E → spTake vs H Q E := fun vs H Q E ⟨p, m, many, e, b, h1, h2, h3, q⟩ => ⟨p, m, many, e, b, by omega, h2, h3, fun r H' r0 r1 bx bu => q r H' r0 r1 bx bu⟩
structure Bi (mg : Str → Option Value) : Prop where
  range : mg "range" = none
  tuple : mg "tuple" = none
  len : mg "len" = none
  abs : mg "abs" = none
  list : mg "list" = none
structure AtV (K : PySem.W.Frag) (mg : Str → Option Value) (n : Str) (f : Addr) (fd : FuncData) (ps : List Str) : Prop where
  g : mg n = some (.ref f)
  k : PySem.W.keepIn K (.ref f) = true
  b : Binds K fd ps []
abbrev Pt := Int × Int
abbrev Eg := Pt × Pt
def pD (p : Pt) : D0 := .tup [.int p.1, .int p.2]
def eD (e : Eg) : D0 := .tup [pD e.1, pD e.2]
def onP (p : Pt) : Bool := (decide (0 ≤ p.1) && decide (p.1 ≤ 30)) && (decide (0 ≤ p.2) && decide (p.2 ≤ 30))
/-- an edge of the paper, its lesser point first -/
def edB (e : Eg) : Bool := (onP e.1 && onP e.2) && (decide (e.2 = (e.1.1, e.1.2 + 1)) || decide (e.2 = (e.1.1 + 1, e.1.2)))
theorem ed_up {x y : Int} (h0 : 0 ≤ x) (h1 : x ≤ 30) (h2 : 0 ≤ y) (h3 : y < 30) : edB ((x, y), (x, y + 1)) = true := by
  simp [edB, onP]
  omega
theorem ed_right {x y : Int} (h0 : 0 ≤ x) (h1 : x < 30) (h2 : 0 ≤ y) (h3 : y ≤ 30) : edB ((x, y), (x + 1, y)) = true := by
  simp [edB, onP]
  omega
/-- the number of an edge -/
def enum (e : Eg) : Int := 2 * (31 * e.1.1 + e.1.2) + (e.2.1 - e.1.1)
def Asc (es : List Eg) : Prop := es.Pairwise fun a b => enum a < enum b
theorem asc_snoc {es : List Eg} {e : Eg} (h : Asc es) (k : ∀ a ∈ es, enum a < enum e) : Asc (es ++ [e]) := by
  unfold Asc
  rw [List.pairwise_append]
  refine ⟨h, List.pairwise_singleton _ _, fun a ha b hb => ?_⟩
  rw [List.mem_singleton.mp hb]
  exact k a ha
def fEdges : Nat → List D0 → (D0 → Nat → Prop) → Prop := fun m ds q => ∃ most, ds = [.int most] ∧ (1 ≤ most ∧ most ≤ 10 ∧ m ≤ 900000) ∧ ∀ (es : List Eg) m', (∀ e ∈ es, edB e = true) → (∃ l : Int, ∀ e ∈ es, l ≤ e.1.1 ∧ e.1.1 ≤ l + most) → Asc es → es.length ≤ 250 → ((most ≤ 4 → es.length ≤ 50) ∧ (most ≤ 2 → es.length ≤ 18)) → m' ≤ m + 300 → q (.lst (es.map eD)) m'

abbrev gE (bp : Addr) (m1 : Nat) (most wd hg th lf lw x y : Int) (es : List Eg) : Gam Empty := [some (.box bp m1), some (.dat (.int most)), some (.dat (.int wd)), some (.dat (.int hg)), some (.dat (.int th)), some (.dat (.int lf)), some (.dat (.int lw)), some (.own (es.map eD)), some (.dat (.int x)), some (.dat (.int y))]
theorem stepU (D : EndsD Empty) (bp : Addr) (m1 : Nat) (most wd hg th lf lw x y : Int) (es : List Eg) (hm : m1 ≤ 950000) (hl : es.length ≤ 300) (k : ∀ es' m', (es' = es ∨ (y < lw + hg ∧ es' = es ++ [((x, y), (x, y + 1))])) → m' ≤ m1 + 1 → D.nx (gE bp m' most wd hg th lf lw x y es')) :
    dIfS (dAnd (tB' (tOps [Opn.nm 9, Opn.ex (tOps [Opn.nm 6, Opn.nm 3] fAdd)] (fB20 fun i j => decide (i < j)))) (tB' (tOps [Opn.ex (tTk 0 (tC' (Dat.int 5))), Opn.nm 4] (fB20 fun i j => decide (i < j))))) (dApp 7 (tKs [tKs [tN 8, tN 9] fTup, tKs [tN 8, tOps [Opn.nm 9, Opn.ex (tC' (Dat.int 1))] fAdd] fTup] fTup)) dNext D (gE bp m1 most wd hg th lf lw x y es) := by
  refine ite2 (fun c1 => ⟨⟨by omega, by decide, by decide⟩, fun r r0 r1 => ite2 (fun c2 => ?_) (fun _ => k es _ (.inl rfl) (by omega))⟩) (fun c1 => k es _ (.inl rfl) (by omega))
  have := k (es ++ [((x, y), (x, y + 1))]) (m1 + 1) (.inr ⟨of_decide_eq_true c1, rfl⟩) (Nat.le_refl _)
  unfold gE at this
  rw [List.map_append] at this
  refine ⟨sz, sz, sz, ?_, this⟩
  rw [List.length_map]
  exact Nat.lt_of_le_of_lt hl (by decide)
theorem stepR (D : EndsD Empty) (bp : Addr) (m1 : Nat) (most wd hg th lf lw x y : Int) (es : List Eg) (hm : m1 ≤ 950000) (hl : es.length ≤ 300) (k : ∀ es' m', (es' = es ∨ (x < lf + wd ∧ es' = es ++ [((x, y), (x + 1, y))])) → m' ≤ m1 + 1 → D.nx (gE bp m' most wd hg th lf lw x y es')) :
    dIfS (dAnd (tB' (tOps [Opn.nm 8, Opn.ex (tOps [Opn.nm 5, Opn.nm 2] fAdd)] (fB20 fun i j => decide (i < j)))) (tB' (tOps [Opn.ex (tTk 0 (tC' (Dat.int 5))), Opn.nm 4] (fB20 fun i j => decide (i < j))))) (dApp 7 (tKs [tKs [tN 8, tN 9] fTup, tKs [tOps [Opn.nm 8, Opn.ex (tC' (Dat.int 1))] fAdd, tN 9] fTup] fTup)) dNext D (gE bp m1 most wd hg th lf lw x y es) := by
  refine ite2 (fun c1 => ⟨⟨by omega, by decide, by decide⟩, fun r r0 r1 => ite2 (fun c2 => ?_) (fun _ => k es _ (.inl rfl) (by omega))⟩) (fun c1 => k es _ (.inl rfl) (by omega))
  have := k (es ++ [((x, y), (x + 1, y))]) (m1 + 1) (.inr ⟨of_decide_eq_true c1, rfl⟩) (Nat.le_refl _)
  unfold gE at this
  rw [List.map_append] at this
  refine ⟨sz, sz, sz, ?_, this⟩
  rw [List.length_map]
  exact Nat.lt_of_le_of_lt hl (by decide)
section
variable {P : Program} {w : World} {K : PySem.W.Frag} {mg : Str → Option Value} {base : Heap}
theorem scED : FnScope ["_law_box_here", "_law_most", "_law_wide", "_law_high", "_law_thick", "_law_left", "_law_low", "_law_found", "_law_x", "_law_y"] ["_law_box_here", "_law_most"] (defScope (top 38)) := ⟨rfl, rfl, rfl, by decide +kernel, rfl, by decide +kernel, by decide +kernel⟩
theorem ok_edgesD {f : Addr} {fd : FuncData} (F : Fun K "_law_edges" "_law_edges" (top 38) f fd) (B : Bi mg) {fT : Addr} {fdT : FuncData} (GT : FnOk P w K mg base CX0 1 fT fdT ["_law_box_here", "_law_many"] spTk) (AT : AtV K mg "_law_take" fT fdT ["_law_box_here", "_law_many"]) : FnOk P w K mg base CX0 2 f fd ["_law_box_here", "_law_most"] (DL.spB K W0 fEdges) := by
  refine fnB F scED (fun m ds q h => ?_) fun cdv A outer s H E hr => ?_
  · obtain ⟨_, rfl, _⟩ := h
    rfl
  have hu64 : (A.deeper (envOfC "_law_edges" (defScope (top 38)) s.heap.objs.size f cdv)).units + 64 < cLine := by
    have := hr.un
    omega
  have hu65 : (A.deeper (envOfC "_law_edges" (defScope (top 38)) s.heap.objs.size f cdv)).units + 65 < cLine := by
    have := hr.un
    omega
  refine ⟨_, (sdc (ds_par3 (i := 2) (j := 3) (l := 4) (ps_par3 (i := 2) (j := 3) (l := 4) rfl scED.nd rfl rfl rfl (by decide) (by decide) (by decide) rfl rfl rfl (pk1 (pd_bin op_addA od_add (po_ex pd_int) (po_ex (pd_take (pe_call GT (hr.mono (by decide)) rfl AT.g AT.k AT.b .nil pass0 (pa_cons (pv 0) (pk1 (pd_name (pv 1)) pk0)))))) (pk1 (pd_bin op_addA od_add (po_ex pd_int) (po_ex (pd_take (pe_call GT (hr.mono (by decide)) rfl AT.g AT.k AT.b .nil pass0 (pa_cons (pv 0) (pk1 (pd_name (pv 1)) pk0)))))) (pk1 (pd_bin op_addA od_add (po_ex pd_int) (po_ex (pd_take (pe_call GT (hr.mono (by decide)) rfl AT.g AT.k AT.b .nil pass0 (pa_cons (pv 0) (pk1 pd_int pk0)))))) pk0))) (by rfl)))
    (sdc (ds_par (i := 5) (j := 6) (ps_par (i := 5) (j := 6) rfl scED.nd rfl rfl (by decide) rfl rfl (pk1 (pd_take (pe_call GT (hr.mono (by decide)) rfl AT.g AT.k AT.b .nil pass0 (pa_cons (pv 0) (pk1 (pd_bin op_sub od_I20 (po_ex pd_int) (po_name (pv 2))) pk0)))) (pk1 (pd_take (pe_call GT (hr.mono (by decide)) rfl AT.g AT.k AT.b .nil pass0 (pa_cons (pv 0) (pk1 (pd_bin op_sub od_I20 (po_ex pd_int) (po_name (pv 3))) pk0)))) pk0)) (by rfl)))
    (sdc (ds_setF (ps_set (i := 7) scED.nd rfl (Or.inl rfl) (pf_lst pk0)))
    (sdc (ds_for (ps_for PassesOwn.never rfl (id_R2 (pi_range2 (by rfl) B.range (pk1 (pd_name (pv 5)) (pk1 (pd_bin op_addA od_add (po_ex (pd_bin op_addA od_add (po_name (pv 5)) (po_name (pv 2)))) (po_ex pd_int)) pk0)))) (gd_name (pg_name (i := 8) scED.nd rfl (Or.inl rfl)))
    (sd1 (ds_for (ps_for PassesOwn.never rfl (id_R2 (pi_range2 (by rfl) B.range (pk1 (pd_name (pv 6)) (pk1 (pd_bin op_addA od_add (po_ex (pd_bin op_addA od_add (po_name (pv 6)) (po_name (pv 3)))) (po_ex pd_int)) pk0)))) (gd_name (pg_name (i := 9) scED.nd rfl (Or.inl rfl)))
    (sdc (ds_if (PW.pt (pwd_and (pt_c op_lt od_B20 (po_name (pv 9)) (po_ex (pd_bin op_addA od_add (po_name (pv 6)) (po_name (pv 3)))) (nomark _)) (pwd_and1 (pt_c op_lt od_B20 (po_ex (pd_take (pe_call GT (hr.mono (by decide)) rfl AT.g AT.k AT.b .nil pass0 (pa_cons (pv 0) (pk1 pd_int pk0))))) (po_name (pv 4)) (nomark _)))))
    (sd1 (ds_app (ps_expr (pe_bm PySem.F.plainAttrs_list PySem.F.slot_list_append PySem.F.type_list_append mt_append (pv 7) (pk1 (pd_tup (pk1 (pd_tup (pk1 (pd_name (pv 8)) (pk1 (pd_name (pv 9)) pk0))) (pk1 (pd_tup (pk1 (pd_name (pv 8)) (pk1 (pd_bin op_addA od_add (po_name (pv 9)) (po_ex pd_int)) pk0))) pk0))) pk0)))))
    sd0)
    (sd1 (ds_if (PW.pt (pwd_and (pt_c op_lt od_B20 (po_name (pv 8)) (po_ex (pd_bin op_addA od_add (po_name (pv 5)) (po_name (pv 2)))) (nomark _)) (pwd_and1 (pt_c op_lt od_B20 (po_ex (pd_take (pe_call GT (hr.mono (by decide)) rfl AT.g AT.k AT.b .nil pass0 (pa_cons (pv 0) (pk1 pd_int pk0))))) (po_name (pv 4)) (nomark _)))))
    (sd1 (ds_app (ps_expr (pe_bm PySem.F.plainAttrs_list PySem.F.slot_list_append PySem.F.type_list_append mt_append (pv 7) (pk1 (pd_tup (pk1 (pd_tup (pk1 (pd_name (pv 8)) (pk1 (pd_name (pv 9)) pk0))) (pk1 (pd_tup (pk1 (pd_bin op_addA od_add (po_name (pv 8)) (po_ex pd_int)) (pk1 (pd_name (pv 9)) pk0))) pk0))) pk0)))))
    sd0))))))))
    (sd1 (ds_ret (pd_name (pv 7)))))))), ?_⟩
  rintro bp m ds q ⟨most, rfl, ⟨h1, h10, hm⟩, h⟩
  refine ⟨⟨by omega, by omega, by omega⟩, fun a a0 a1 => ⟨⟨by omega, by omega, by omega⟩, fun b b0 b1 => ⟨⟨by omega, by omega, by omega⟩, fun c c0 c1 => ?_⟩⟩⟩
  refine ⟨⟨by omega, by omega, by omega⟩, fun lf lf0 lf1 => ⟨⟨by omega, by omega, by omega⟩, fun lw lw0 lw1 => ⟨sz, ?_⟩⟩⟩
  refine ⟨⟨by omega, by omega, by omega⟩, ?_⟩
  refine ⟨⟨fun i γ => ∃ (es : List Eg) (m1 : Nat) (o8 o9 : Option (Sl Empty)), γ = [some (.box bp m1), some (.dat (.int most)), some (.dat (.int (1 + a))), some (.dat (.int (1 + b))), some (.dat (.int (1 + c))), some (.dat (.int lf)), some (.dat (.int lw)), some (.own (es.map eD)), o8, o9] ∧ (∀ e ∈ es, edB e = true ∧ lf ≤ e.1.1 ∧ e.1.1 ≤ lf + most) ∧ (Asc es ∧ (∀ e ∈ es, enum e < 62 * (lf + i)) ∧ ((most ≤ 4 → es.length ≤ 10 * i) ∧ (most ≤ 2 → es.length ≤ 6 * i))) ∧ es.length ≤ 22 * i ∧ m1 ≤ m + 5 + 22 * i, ⟨[], m + 1 + 1 + 1 + 1 + 1, _, _, rfl, (fun e he => nomatch he), ⟨.nil, (fun e he => nomatch he), ⟨fun _ => Nat.zero_le _, fun _ => Nat.zero_le _⟩⟩, Nat.zero_le _, by omega⟩, ?_, ?_⟩⟩
  · rintro i d γ hd ⟨es, m1, o8, o9, rfl, he, ⟨asc, low, few⟩, hl, hm1⟩
    obtain ⟨hi, rfl⟩ := rngD_at hd
    refine ⟨⟨by omega, by omega, by omega⟩, ?_⟩
    refine ⟨⟨fun j γ => ∃ (es : List Eg) (m1 : Nat) (o9 : Option (Sl Empty)), γ = [some (.box bp m1), some (.dat (.int most)), some (.dat (.int (1 + a))), some (.dat (.int (1 + b))), some (.dat (.int (1 + c))), some (.dat (.int lf)), some (.dat (.int lw)), some (.own (es.map eD)), some (.dat (.int (lf + i))), o9] ∧ (∀ e ∈ es, edB e = true ∧ lf ≤ e.1.1 ∧ e.1.1 ≤ lf + most) ∧ (Asc es ∧ (∀ e ∈ es, enum e < 62 * (lf + i) + 2 * (lw + j)) ∧ ((most ≤ 4 → es.length ≤ 10 * i + 2 * j) ∧ (most ≤ 2 → es.length ≤ 6 * i + 2 * j))) ∧ es.length ≤ 22 * i + 2 * j ∧ m1 ≤ m + 5 + 22 * i + 2 * j, ⟨es, m1, _, rfl, he, ⟨asc, (fun e h => by have := low e h; omega), ⟨fun z => by have := few.1 z; omega, fun z => by have := few.2 z; omega⟩⟩, by omega, by omega⟩, ?_, ?_⟩⟩
    · rintro j d γ hd ⟨es, m1, o9, rfl, he, ⟨asc, low, few⟩, hl, hm1⟩
      obtain ⟨hj, rfl⟩ := rngD_at hd
      have ib : 0 ≤ lf + (i : Int) ∧ lf + (i : Int) ≤ lf + (1 + a) := by omega
      have jb : 0 ≤ lw + (j : Int) ∧ lw + (j : Int) ≤ lw + (1 + b) := by omega
      refine stepU _ bp m1 most (1 + a) (1 + b) (1 + c) lf lw (lf + i) (lw + j) es (by omega) (by omega) fun es2 m2 h2 hm2 => ?_
      have h2l : es2.length ≤ es.length + 1 ∧ (∀ e ∈ es2, edB e = true ∧ lf ≤ e.1.1 ∧ e.1.1 ≤ lf + most) ∧ Asc es2 ∧ ∀ e ∈ es2, enum e < 62 * (lf + i) + 2 * (lw + j) + 1 := by
        rcases h2 with rfl | ⟨lt, rfl⟩
        · exact ⟨by omega, he, asc, fun e h => by have := low e h; omega⟩
        · have en : enum ((lf + (i : Int), lw + (j : Int)), (lf + (i : Int), lw + (j : Int) + 1)) = 62 * (lf + i) + 2 * (lw + j) := by
            simp only [enum]
            omega
          refine ⟨by rw [List.length_append]; exact Nat.le_refl _, fun e h => ?_, asc_snoc asc fun a ha => by rw [en]; exact low a ha, fun e h => ?_⟩
          · rcases List.mem_append.mp h with h | h
            · exact he e h
            · rw [List.mem_singleton.mp h]
              exact ⟨ed_up (by omega) (by omega) (by omega) (by omega), by dsimp only; omega, by dsimp only; omega⟩
          · rcases List.mem_append.mp h with h | h
            · have := low e h
              omega
            · rw [List.mem_singleton.mp h, en]
              omega
      obtain ⟨h2l, h2e, asc2, low2⟩ := h2l
      refine stepR _ bp m2 most (1 + a) (1 + b) (1 + c) lf lw (lf + i) (lw + j) es2 (by omega) (by omega) fun es3 m3 h3 hm3 => ?_
      have h3l : es3.length ≤ es2.length + 1 ∧ (∀ e ∈ es3, edB e = true ∧ lf ≤ e.1.1 ∧ e.1.1 ≤ lf + most) ∧ Asc es3 ∧ ∀ e ∈ es3, enum e < 62 * (lf + i) + 2 * (lw + j) + 2 := by
        rcases h3 with rfl | ⟨lt, rfl⟩
        · exact ⟨by omega, h2e, asc2, fun e h => by have := low2 e h; omega⟩
        · have en : enum ((lf + (i : Int), lw + (j : Int)), (lf + (i : Int) + 1, lw + (j : Int))) = 62 * (lf + i) + 2 * (lw + j) + 1 := by
            simp only [enum]
            omega
          refine ⟨by rw [List.length_append]; exact Nat.le_refl _, fun e h => ?_, asc_snoc asc2 fun a ha => by rw [en]; exact low2 a ha, fun e h => ?_⟩
          · rcases List.mem_append.mp h with h | h
            · exact h2e e h
            · rw [List.mem_singleton.mp h]
              exact ⟨ed_right (by omega) (by omega) (by omega) (by omega), by dsimp only; omega, by dsimp only; omega⟩
          · rcases List.mem_append.mp h with h | h
            · have := low2 e h
              omega
            · rw [List.mem_singleton.mp h, en]
              omega
      obtain ⟨h3l, h3e, asc3, low3⟩ := h3l
      exact ⟨es3, m3, _, rfl, h3e, ⟨asc3, (fun e h => by have := low3 e h; omega), ⟨fun z => by have := few.1 z; omega, fun z => by have := few.2 z; omega⟩⟩, by omega, by omega⟩
    · rintro γ ⟨es, m1, o9, rfl, he, ⟨asc, low, few⟩, hl, hm1⟩
      rw [rngD_len] at hl hm1 low few
      exact ⟨es, m1, _, _, rfl, he, ⟨asc, (fun e h => by have := low e h; omega), ⟨fun z => by have := few.1 z; omega, fun z => by have := few.2 z; omega⟩⟩, by omega, by omega⟩
  · rintro γ ⟨es, m1, o8, o9, rfl, he, ⟨asc, low, few⟩, hl, hm1⟩
    rw [rngD_len] at hl hm1 few
    exact ⟨m1, rfl, h es m1 (fun e h => (he e h).1) ⟨lf, fun e h => (he e h).2⟩ asc (by omega) (⟨fun z => by have := few.1 z; omega, fun z => by have := few.2 z; omega⟩) (by omega)⟩
end
end Y1
set_option Elab.async false
set_option linter.all false
set_option maxRecDepth 100000
set_option maxHeartbeats 16000000
namespace Y1
open PySem PySem.Spec PyProof.Rows L2 Nv
/-! ### what the questions ask, of data -/
def intish : PyData → Bool
  | .bool _ => true
  | .int _ => true
  | _ => false
def boolish : PyData → Bool
  | .bool _ => true
  | _ => false
def tupish : PyData → Bool
  | .tuple _ => true
  | _ => false
def strish : PyData → Bool
  | .str _ => true
  | _ => false
def intB : PyData → Bool
  | .int _ => true
  | _ => false
def pairB : PyData → Bool
  | .tuple [_, _] => true
  | _ => false
def cooB : PyData → Bool
  | .int i => decide (0 ≤ i) && decide (i ≤ 30)
  | _ => false
def ptB : PyData → Bool
  | .tuple [a, b] => cooB a && cooB b
  | _ => false
def dirOf (s : Str) : Bool := decide (s = "r") || (decide (s = "u") || (decide (s = "l") || decide (s = "d")))
def dirB : PyData → Bool
  | .str s => dirOf s
  | _ => false
/-- a def that asks one value and gives a truth -/
def spB (b : PyData → Bool) : Sp := fun vs H Q _ => ∃ v d, vs = [v] ∧ DV H v d ∧ ∀ H', Same H H' → Q (.bl (b d)) H'
theorem same0 (H : Hp) : Same H H := fun _ _ e => e

/-- the type's name of a datum -/
def tyN : PyData → String
  | .none => "NoneType"
  | .bool _ => "bool"
  | .int _ => "int"
  | .str _ => "str"
  | .list _ => "list"
  | .tuple _ => "tuple"
  | .dict _ => "dict"
theorem ty_of {K : PySem.W.Frag} {H : Hp} {v : V} {d : PyData} (h : DV H v d) : TyX K H v (.type (tyN d)) := by
  cases h with
  | non => exact .base .non
  | bl b => exact .base (.bl b)
  | int i => exact .base (.int i)
  | str x => exact .base (.str x)
  | lst h r => exact .base (.lst h)
  | tup h r => exact .base (.tup h)
  | emp h => exact .base (.dK h)
theorem kit_int (d : PyData) : kitB (tyN d) "int" = some (intish d) := by
  cases d
  · show kitB "NoneType" "int" = some false
    decide +kernel
  · show kitB "bool" "int" = some true
    decide +kernel
  · show kitB "int" "int" = some true
    decide +kernel
  · show kitB "str" "int" = some false
    decide +kernel
  · show kitB "list" "int" = some false
    decide +kernel
  · show kitB "tuple" "int" = some false
    decide +kernel
  · show kitB "dict" "int" = some false
    decide +kernel
theorem kit_bool (d : PyData) : kitB (tyN d) "bool" = some (boolish d) := by
  cases d
  · show kitB "NoneType" "bool" = some false
    decide +kernel
  · show kitB "bool" "bool" = some true
    decide +kernel
  · show kitB "int" "bool" = some false
    decide +kernel
  · show kitB "str" "bool" = some false
    decide +kernel
  · show kitB "list" "bool" = some false
    decide +kernel
  · show kitB "tuple" "bool" = some false
    decide +kernel
  · show kitB "dict" "bool" = some false
    decide +kernel
theorem kit_tuple (d : PyData) : kitB (tyN d) "tuple" = some (tupish d) := by
  cases d
  · show kitB "NoneType" "tuple" = some false
    decide +kernel
  · show kitB "bool" "tuple" = some false
    decide +kernel
  · show kitB "int" "tuple" = some false
    decide +kernel
  · show kitB "str" "tuple" = some false
    decide +kernel
  · show kitB "list" "tuple" = some false
    decide +kernel
  · show kitB "tuple" "tuple" = some true
    decide +kernel
  · show kitB "dict" "tuple" = some false
    decide +kernel
theorem kit_str (d : PyData) : kitB (tyN d) "str" = some (strish d) := by
  cases d
  · show kitB "NoneType" "str" = some false
    decide +kernel
  · show kitB "bool" "str" = some false
    decide +kernel
  · show kitB "int" "str" = some false
    decide +kernel
  · show kitB "str" "str" = some true
    decide +kernel
  · show kitB "list" "str" = some false
    decide +kernel
  · show kitB "tuple" "str" = some false
    decide +kernel
  · show kitB "dict" "str" = some false
    decide +kernel
theorem dv_tup {H : Hp} {v : V} {ds : List PyData} (h : DV H v (.tuple ds)) : ∃ a xs, v = .ref a ∧ H a = some (.tup xs) ∧ DVs H xs ds := by
  cases h with
  | tup h r => exact ⟨_, _, rfl, h, r⟩
theorem dv_pair {H : Hp} {v : V} {d e : PyData} (h : DV H v (.tuple [d, e])) : ∃ a x y, v = .ref a ∧ H a = some (.tup [x, y]) ∧ DV H x d ∧ DV H y e := by
  obtain ⟨a, xs, rfl, h1, r⟩ := dv_tup h
  cases r with
  | cons h2 r =>
    cases r with
    | cons h3 r =>
      cases r
      exact ⟨a, _, _, rfl, h1, h2, h3⟩
theorem pair_of {d : PyData} (h : pairB d = true) : ∃ a b, d = .tuple [a, b] := by
  cases d with
  | tuple ds =>
    rcases ds with _ | ⟨a, _ | ⟨b, _ | ⟨c, r⟩⟩⟩
    · cases h
    · cases h
    · exact ⟨a, b, rfl⟩
    · cases h
  | _ => cases h
theorem coo_of {d : PyData} (h : cooB d = true) : ∃ i : Int, d = .int i ∧ 0 ≤ i ∧ i ≤ 30 := by
  cases d with
  | int i =>
    have := Bool.and_eq_true_iff.mp (show (decide (0 ≤ i) && decide (i ≤ 30)) = true from h)
    exact ⟨i, rfl, of_decide_eq_true this.1, of_decide_eq_true this.2⟩
  | _ => cases h
theorem pt_of {d : PyData} (h : ptB d = true) : ∃ i j : Int, d = .tuple [.int i, .int j] ∧ 0 ≤ i ∧ i ≤ 30 ∧ 0 ≤ j ∧ j ≤ 30 := by
  cases d with
  | tuple ds =>
    rcases ds with _ | ⟨a, _ | ⟨b, _ | ⟨c, r⟩⟩⟩
    · cases h
    · cases h
    · have z := Bool.and_eq_true_iff.mp (show (cooB a && cooB b) = true from h)
      obtain ⟨i, rfl, i0, i1⟩ := coo_of z.1
      obtain ⟨j, rfl, j0, j1⟩ := coo_of z.2
      exact ⟨i, j, rfl, i0, i1, j0, j1⟩
    · cases h
  | _ => cases h
theorem dv_int {H : Hp} {v : V} {i : Int} (h : DV H v (.int i)) : v = .int i := by
  cases h
  rfl
theorem dv_str {H : Hp} {v : V} {i : Str} (h : DV H v (.str i)) : v = .str i := by
  cases h
  rfl
theorem dv_pt {H : Hp} {v : V} {i j : Int} (h : DV H v (.tuple [.int i, .int j])) : ∃ a, v = .ref a ∧ H a = some (.tup [.int i, .int j]) := by
  obtain ⟨a, x, y, rfl, h1, hx, hy⟩ := dv_pair h
  rw [dv_int hx, dv_int hy] at h1
  exact ⟨a, rfl, h1⟩
theorem sqt {K : PySem.W.Frag} {H : Hp} {a : Addr} {xs : List V} (h : H a = some (.tup xs)) : SqT K H a xs := .inl (.inl h)

mutual
theorem dv_dp {K : PySem.W.Frag} {H : Hp} : ∀ {v : V} {d : PyData}, DV H v d → d.hasDict = false → Dp K H v d
  | _, _, .non, _ => .non
  | _, _, .bl b, _ => .bl b
  | _, _, .int i, _ => .int i
  | _, _, .str x, _ => .str x
  | _, _, .lst h r, n => .lst (SqL.of h) (dvs_dp r (by simpa [PyData.hasDict] using n))
  | _, _, .tup h r, n => .tup (sqt h) (dvs_dp r (by simpa [PyData.hasDict] using n))
  | _, _, .emp h, n => by simp [PyData.hasDict] at n
theorem dvs_dp {K : PySem.W.Frag} {H : Hp} : ∀ {vs : List V} {ds : List PyData}, DVs H vs ds → PyData.hasDictAll ds = false → DpAll K H vs ds
  | _, _, .nil, _ => .nil
  | _, _, .cons (d := d) (ds := ds) h r, n => by
    have z : d.hasDict = false ∧ PyData.hasDictAll ds = false := by simpa [PyData.hasDictAll] using n
    exact .cons (dv_dp h z.1) (dvs_dp r z.2)
end
section
variable {X : Cx}
def rInT (K : PySem.W.Frag) : R2 := fun x y H Q => ∃ d ds, Dp K H x d ∧ Dp K H y (.tuple ds) ∧ SeqAt.shaped d = true ∧ SeqAt.shaped (.list ds) = true ∧ Q (.bl (ds.any fun z => PyData.eqv z d)) H
theorem op_inT (hu : X.A.units + 65 < cLine) : OpR X (compareOp .In) (rInT X.K) := by
  intro pins s σ H x y v u Q I rx ry h
  obtain ⟨d, ds, hd, he, sd, se, q⟩ := h
  obtain ⟨as, r1⟩ := Dp.reads I d x v hd rx
  obtain ⟨bs, r2⟩ := Dp.reads I (.tuple ds) y u he ry
  exact SeqAt.in_tuple_reads r2 r1 (SeqAt.canLay_of_shaped se) (SeqAt.canLay_of_shaped sd) (room_in_shaped sd hu) ⟨.bl _, H, I, rfl, q⟩
end

structure Ta (mg : Str → Option Value) : Prop where
  isi : mg "isinstance" = none
  int : mg "int" = none
  bool : mg "bool" = none
  tup : mg "tuple" = none
  str : mg "str" = none
  len : mg "len" = none
  last : ∃ t, mg "LAST" = some (.int 30 t)
/-- a def of the text, where it stands -/
structure At (K : PySem.W.Frag) (mg : Str → Option Value) (n : Str) (f : Addr) (fd : FuncData) (ps : List Str) : Prop where
  g : mg n = some (.ref f)
  k : PySem.W.keepIn K (.ref f) = true
  b : Binds K fd ps []
section
variable {P : Program} {w : World} {K : PySem.W.Frag} {mg : Str → Option Value} {base : Heap}
theorem intB_eq {d : PyData} : intB d = (intish d && !(boolish d)) := by cases d <;> rfl
theorem and_t {a b : Bool} (h : a = true) : (a && b) = b := by rw [h]; rfl
theorem and_f {a b : Bool} (h : ¬ a = true) : (a && b) = false := by cases a <;> simp_all
theorem tupish_of {d : PyData} (h : tupish d = true) : ∃ ds, d = .tuple ds := by
  cases d with
  | tuple ds => exact ⟨ds, rfl⟩
  | _ => cases h
theorem int_of {d : PyData} (h : intB d = true) : ∃ i, d = .int i := by
  cases d with
  | int i => exact ⟨i, rfl⟩
  | _ => cases h
theorem coo_int {d : PyData} (h : intB d = false) : cooB d = false := by
  cases d with
  | int i => cases h
  | _ => rfl
/-- a length asked: the datum is a pair, or not -/
theorem pair_len {ds : List PyData} (h : (!decide (V.int (ds.length : Int) = V.int 2)) = false) : ∃ da db, ds = [da, db] := by
  rcases ds with _ | ⟨a, _ | ⟨b, _ | ⟨c, r0⟩⟩⟩
  · cases h
  · cases h
  · exact ⟨a, b, rfl⟩
  · have := of_decide_eq_true (by simpa using h : decide (V.int (((a :: b :: c :: r0).length : Nat) : Int) = V.int 2) = true)
    have := V.int.inj this
    simp only [List.length_cons] at this
    omega
theorem pair_nolen {ds : List PyData} (h : (!decide (V.int (ds.length : Int) = V.int 2)) = true) : pairB (.tuple ds) = false := by
  rcases ds with _ | ⟨a, _ | ⟨b, _ | ⟨c, r0⟩⟩⟩
  · rfl
  · rfl
  · cases h
  · rfl
theorem ptB_pair {d : PyData} (h : pairB d = false) : ptB d = false := by
  cases d with
  | tuple ds =>
    rcases ds with _ | ⟨a, _ | ⟨b, _ | ⟨c, r⟩⟩⟩
    · rfl
    · rfl
    · cases h
    · rfl
  | _ => rfl
theorem pair_tup {d : PyData} (h : tupish d = false) : pairB d = false := by
  cases d with
  | tuple ds => cases h
  | _ => rfl
end
def xOf : PyData → Int
  | .tuple [.int x, .int _] => x
  | _ => 0
def yOf : PyData → Int
  | .tuple [.int _, .int y] => y
  | _ => 0
def stepB (p q : PyData) : Bool := (decide (xOf q - xOf p = 1) && decide (yOf q - yOf p = 0)) || (decide (xOf q - xOf p = 0) && decide (yOf q - yOf p = 1))
def edgeB : PyData → Bool
  | .tuple [p, q] => ptB p && (ptB q && stepB p q)
  | _ => false
theorem stay {H : Hp} {a b : Addr} {o u : HO} (h : H b = some u) (n : H a = none) : upd H a o b = some u := by
  rw [upd_ne (ne_of_none h n)]
  exact h
theorem shaped_str {z : Str} (h : PyData.strOk z = true) : SeqAt.shaped (.str z) = true := by simp [SeqAt.shaped, PyData.canLay0, PyData.depth, h]
open PySem PySem.Spec PyProof.Rows L2 Nv
/-! ### numbers: ints, and truths in their place -/
def numOf : PyData → Int
  | .int i => i
  | .bool b => if b = true then 1 else 0
  | _ => 0
def IsN (x : V) (i : Int) : Prop := x = .int i ∨ ∃ b : Bool, x = .bl b ∧ i = if b = true then 1 else 0
theorem isN_of {H : Hp} {v : V} {d : PyData} (h : DV H v d) (i : intish d = true) : IsN v (numOf d) := by
  cases h with
  | int k => exact .inl rfl
  | bl b => exact .inr ⟨b, rfl, rfl⟩
  | _ => cases i
section
variable {prog : Program} {w : World} {A : Around} {E : Value → Shared → Prop} {s : Shared} {Q : Value → Shared → Prop}
theorem gives_ge_bi (b : Bool) (a : Int) (t : Tok) : Gives (Builtin.«int.__ge__» ⟨[.bool b, .int a t], []⟩) (.val (Value.bool (decide ((if b = true then (1 : Int) else 0) ≥ a)))) :=
  .of_wp fun M A E s Q h => by obtain ⟨hp, g, d, tk, os⟩ := s; wp_walk; exact ⟨_, rfl, h⟩
theorem gives_le_bi (b : Bool) (a : Int) (t : Tok) : Gives (Builtin.«int.__le__» ⟨[.bool b, .int a t], []⟩) (.val (Value.bool (decide ((if b = true then (1 : Int) else 0) ≤ a)))) :=
  .of_wp fun M A E s Q h => by obtain ⟨hp, g, d, tk, os⟩ := s; wp_walk; exact ⟨_, rfl, h⟩
theorem gives_lt_bi (b : Bool) (a : Int) (t : Tok) : Gives (Builtin.«int.__lt__» ⟨[.bool b, .int a t], []⟩) (.val (Value.bool (decide ((if b = true then (1 : Int) else 0) < a)))) :=
  .of_wp fun M A E s Q h => by obtain ⟨hp, g, d, tk, os⟩ := s; wp_walk; exact ⟨_, rfl, h⟩
theorem le_ib {a : Int} {t : Tok} {b : Bool} (h : Q (.bool (decide (a ≤ if b = true then (1 : Int) else 0))) s) : wpAny (model prog w) A (compareOp .LtE (.int a t) (.bool b)) Q E s := by
  show wpAny _ A (richCompare .LtE _ _) Q E s
  exact SeqAt.rc_sub_first_or (typeIs_int s a t) rfl (by decide) F.sub_bool_int F.slot_bool_ge_refl
    (call_gives F.slot_bool_ge_refl rfl F.entry_int_ge (F.args_int_ge_2 _ _) (gives_ge_bi b a t) ⟨nofun, h⟩) (.inl rfl)
theorem le_bi {a : Int} {t : Tok} {b : Bool} (h : Q (.bool (decide ((if b = true then (1 : Int) else 0) ≤ a))) s) : wpAny (model prog w) A (compareOp .LtE (.bool b) (.int a t)) Q E s := by
  show wpAny _ A (richCompare .LtE _ _) Q E s
  exact SeqAt.rc_left_or rfl (typeIs_int s a t) (by decide) F.sub_int_bool F.slot_bool_le
    (call_gives F.slot_bool_le rfl F.entry_int_le (F.args_int_le_2 _ _) (gives_le_bi b a t) ⟨nofun, h⟩) (.inl rfl)
theorem lt_bi {a : Int} {t : Tok} {b : Bool} (h : Q (.bool (decide ((if b = true then (1 : Int) else 0) < a))) s) : wpAny (model prog w) A (compareOp .Lt (.bool b) (.int a t)) Q E s := by
  show wpAny _ A (richCompare .Lt _ _) Q E s
  exact SeqAt.rc_left_or rfl (typeIs_int s a t) (by decide) F.sub_int_bool F.slot_bool_lt
    (call_gives F.slot_bool_lt rfl F.entry_int_lt (F.args_int_lt_2 _ _) (gives_lt_bi b a t) ⟨nofun, h⟩) (.inl rfl)
end
/-- an int and a number -/
def rIN (g : Int → Int → V) : R2 := fun x y H Q => ∃ i j, x = .int i ∧ IsN y j ∧ Q (g i j) H
/-- a number and an int -/
def rNI (g : Int → Int → V) : R2 := fun x y H Q => ∃ i j, IsN x i ∧ y = .int j ∧ Q (g i j) H
section
variable {X : Cx}
theorem op_leIN : OpR X (compareOp .LtE) (rIN fun i j => .bl (decide (i ≤ j))) := by
  intro pins s σ H x y v u Q I rx ry h
  obtain ⟨i, j, rfl, hy, q⟩ := h
  obtain ⟨t, rfl⟩ := rx
  rcases hy with rfl | ⟨b, rfl, rfl⟩
  · obtain ⟨t', rfl⟩ := ry
    exact le_int ⟨.bl _, H, I, rfl, q⟩
  · cases ry
    exact le_ib ⟨.bl _, H, I, rfl, q⟩
theorem op_leNI : OpR X (compareOp .LtE) (rNI fun i j => .bl (decide (i ≤ j))) := by
  intro pins s σ H x y v u Q I rx ry h
  obtain ⟨i, j, hx, rfl, q⟩ := h
  obtain ⟨t, rfl⟩ := ry
  rcases hx with rfl | ⟨b, rfl, rfl⟩
  · obtain ⟨t', rfl⟩ := rx
    exact le_int ⟨.bl _, H, I, rfl, q⟩
  · cases rx
    exact le_bi ⟨.bl _, H, I, rfl, q⟩
theorem op_ltNI : OpR X (compareOp .Lt) (rNI fun i j => .bl (decide (i < j))) := by
  intro pins s σ H x y v u Q I rx ry h
  obtain ⟨i, j, hx, rfl, q⟩ := h
  obtain ⟨t, rfl⟩ := ry
  rcases hx with rfl | ⟨b, rfl, rfl⟩
  · obtain ⟨t', rfl⟩ := rx
    exact lt_int ⟨.bl _, H, I, rfl, q⟩
  · cases rx
    exact lt_bi ⟨.bl _, H, I, rfl, q⟩
theorem op_addNI : OpR X (binaryOp .Add) (rNI fun i j => .int (i + j)) := by
  intro pins s σ H x y v u Q I rx ry h
  obtain ⟨i, j, hx, rfl, q⟩ := h
  obtain ⟨t, rfl⟩ := ry
  rcases hx with rfl | ⟨b, rfl, rfl⟩
  · obtain ⟨t', rfl⟩ := rx
    exact add_int ⟨.int _, H, I.tok _, ⟨_, rfl⟩, q⟩
  · cases rx
    exact IntBool.add_bool_int ⟨.int _, H, I.tok _, ⟨_, rfl⟩, q⟩
theorem op_addIN : OpR X (binaryOp .Add) (rIN fun i j => .int (i + j)) := by
  intro pins s σ H x y v u Q I rx ry h
  obtain ⟨i, j, rfl, hy, q⟩ := h
  obtain ⟨t, rfl⟩ := rx
  rcases hy with rfl | ⟨b, rfl, rfl⟩
  · obtain ⟨t', rfl⟩ := ry
    exact add_int ⟨.int _, H, I.tok _, ⟨_, rfl⟩, q⟩
  · cases ry
    exact add_int_bool ⟨.int _, H, I.tok _, ⟨_, rfl⟩, q⟩
theorem op_mulIN : OpR X (binaryOp .Mult) (fun x y H Q => ∃ i j, x = .int i ∧ IsN y j ∧ (-(2 ^ 64) < i ∧ i < 2 ^ 64) ∧ Q (.int (i * j)) H) := by
  intro pins s σ H x y v u Q I rx ry h
  obtain ⟨i, j, rfl, hy, hc, q⟩ := h
  obtain ⟨t, rfl⟩ := rx
  rcases hy with rfl | ⟨b, rfl, rfl⟩
  · obtain ⟨t', rfl⟩ := ry
    exact mul_int ⟨.int _, H, I.tok _, ⟨_, rfl⟩, q⟩ (CMul.ok (.inl hc))
  · cases ry
    exact IntBool.mul_int_bool ⟨.int _, H, I.tok _, ⟨_, rfl⟩, q⟩
/-- x is True, x is False, of a number -/
theorem op_isB (c : Bool) : OpR X (compareOp .Is) (fun x y H Q => y = .bl c ∧ ((∃ i, x = .int i ∧ Q (.bl false) H) ∨ ∃ b, x = .bl b ∧ Q (.bl (decide (b = c))) H)) := by
  intro pins s σ H x y v u Q I rx ry h
  obtain ⟨rfl, h⟩ := h
  cases ry
  rcases h with ⟨i, rfl, q⟩ | ⟨b, rfl, q⟩
  · obtain ⟨t, rfl⟩ := rx
    exact wpAny_is_other rfl (fun z => nomatch z) ⟨.bl _, H, I, rfl, q⟩
  · cases rx
    refine wpAny_is_plain rfl ⟨.bl (decide (b = c)), H, I, ?_, q⟩
    show Value.bool (Value.bool b == Value.bool c) = Value.bool (decide (b = c))
    cases b <;> cases c <;> rfl
end
def spTr : Sp := fun vs H Q _ => ∃ x y d e, vs = [x, y] ∧ DV H x d ∧ DV H y e ∧ intish d = true ∧ intish e = true ∧ Q (.bl (boolish d || boolish e)) H
section
variable {P : Program} {w : World} {K : PySem.W.Frag} {mg : Str → Option Value} {base : Heap}
theorem isT {H : Hp} {x : V} {d : PyData} {B : Prop} {C : Bool → Prop} (h : DV H x d) (i : intish d = true) (q1 : boolish d = false → B) (q2 : ∀ b, d = .bool b → C b) :
    ((∃ i, x = .int i ∧ B) ∨ ∃ b, x = .bl b ∧ C b) := by
  cases h with
  | int k => exact .inl ⟨k, rfl, q1 rfl⟩
  | bl b => exact .inr ⟨b, rfl, q2 b rfl⟩
  | _ => cases i
theorem scT : FnScope ["x", "y"] ["x", "y"] (defScope (top 20)) := ⟨rfl, rfl, rfl, by decide +kernel, rfl, by decide +kernel, by decide +kernel⟩
theorem ok_truth {f : Addr} {fd : FuncData} (F : Fun K "_has_truth" "_has_truth" (top 20) f fd) : FnOk P w K mg base CX0 1 f fd ["x", "y"] spTr := by
  refine F.ok scT (fun vs H Q E h => by obtain ⟨x, y, d, e, rfl, _⟩ := h; rfl) (fun cdv A outer s H vs Q E hr h => ?_)
  obtain ⟨x, y, d, e, rfl, dx, dy, i1, i2, q⟩ := h
  refine ⟨_, pss_one (ps_ret (pe_or (pe_cmpR (op_isB true) (pv 0) pe_bl (nomark _)) (pe_or (pe_cmpR (op_isB false) (pv 0) pe_bl (nomark _)) (pe_or (pe_cmpR (op_isB true) (pv 1) pe_bl (nomark _)) (pe_one (pe_cmpR (op_isB false) (pv 1) pe_bl (nomark _))))))), ?_⟩
  refine ⟨_, rfl, rfl, isT dx i1 (fun n1 => ?_) fun b e1 => ?_⟩
  · refine ⟨_, rfl, _, rfl, rfl, isT dx i1 (fun n2 => ?_) fun b e1 => ?_⟩
    · rw [n1, Bool.false_or] at q
      refine ⟨_, rfl, _, rfl, rfl, isT dy i2 (fun n3 => ?_) fun b e2 => ?_⟩
      · refine ⟨_, rfl, _, rfl, rfl, isT dy i2 (fun n4 => ?_) fun b e2 => ?_⟩
        · rw [n4] at q
          exact q
        · subst e2
          cases n3
      · subst e2
        cases b with
        | true => exact ⟨_, rfl, q⟩
        | false =>
          refine ⟨_, rfl, _, rfl, rfl, isT dy i2 (fun n4 => by cases n4) fun b e2 => ?_⟩
          cases e2
          exact q
    · subst e1
      cases n1
  · subst e1
    cases b with
    | true => exact ⟨_, rfl, q⟩
    | false =>
      refine ⟨_, rfl, _, rfl, rfl, isT dx i1 (fun n4 => by cases n4) fun b e2 => ?_⟩
      cases e2
      exact ⟨_, rfl, q⟩
end
open PySem PySem.Spec PyProof.Rows L2 Nv
def flatP (d : PyData) : Prop := ∀ p r, d = .tuple [p, r] → r.hasDict = false ∧ SeqAt.shaped r = true
def numE : PyData → Int
  | .tuple [.tuple [a, b], .tuple [c, _]] => 2 * (31 * numOf a + numOf b) + (if numOf c = numOf a + 1 then 1 else 0)
  | _ => 0
/-- an edge has a number, all else None -/
def spNum : Sp := fun vs H Q _ => ∃ v d, vs = [v] ∧ DV H v d ∧ flatP d ∧ (edgeB d = false → ∀ H', Same H H' → Q .non H') ∧ (edgeB d = true → ∀ H', Same H H' → Q (.int (numE d)) H')
theorem edge_nopair {d : PyData} (h : pairB d = false) : edgeB d = false := by
  cases d with
  | tuple ds =>
    rcases ds with _ | ⟨a, _ | ⟨b, _ | ⟨c, r⟩⟩⟩
    · rfl
    · rfl
    · cases h
    · rfl
  | _ => rfl
theorem edge_nopt {p r : PyData} (h : ptB p = false) : edgeB (.tuple [p, r]) = false := by
  show (ptB p && _) = false
  rw [h, Bool.false_and]
theorem coo_ish {d : PyData} (h : intish d = false) : cooB d = false := by
  cases d with
  | int i => cases h
  | _ => rfl
theorem coo_num {d : PyData} (h : ¬ (0 ≤ numOf d ∧ numOf d ≤ 30)) : cooB d = false := by
  cases d with
  | int i =>
    refine Bool.eq_false_iff.mpr fun z => h ?_
    have := Bool.and_eq_true_iff.mp (show (decide (0 ≤ i) && decide (i ≤ 30)) = true from z)
    exact ⟨of_decide_eq_true this.1, of_decide_eq_true this.2⟩
  | _ => rfl
theorem pt_no1 {a b : PyData} (h : cooB a = false) : ptB (.tuple [a, b]) = false := by
  show (cooB a && cooB b) = false
  rw [h, Bool.false_and]
theorem pt_no2 {a b : PyData} (h : cooB b = false) : ptB (.tuple [a, b]) = false := by
  show (cooB a && cooB b) = false
  rw [h, Bool.and_false]
theorem ish_cases {d : PyData} (h : intish d = true) : (∃ i, d = .int i) ∨ ∃ b, d = .bool b := by
  cases d with
  | int i => exact .inl ⟨i, rfl⟩
  | bool b => exact .inr ⟨b, rfl⟩
  | _ => cases h
theorem ish_flat {d : PyData} (h : intish d = true) : d.hasDict = false := by
  rcases ish_cases h with ⟨i, rfl⟩ | ⟨b, rfl⟩ <;> rfl
theorem shaped_nn {a b : PyData} (ha : intish a = true) (hb : intish b = true) : SeqAt.shaped (.tuple [a, b]) = true := by
  rcases ish_cases ha with ⟨i, rfl⟩ | ⟨i, rfl⟩ <;> rcases ish_cases hb with ⟨j, rfl⟩ | ⟨j, rfl⟩ <;> first | rfl | exact (by decide : (true && (true && true) && decide (max 0 (max 0 0) + 1 ≤ 64)) = true)
theorem eqv_num {c a : PyData} (ha : intish a = true) : PyData.eqv c a = (intish c && decide (numOf c = numOf a)) := by
  rcases ish_cases ha with ⟨i, rfl⟩ | ⟨i, rfl⟩
  · cases c with
    | int k => rfl
    | bool k => rfl
    | _ => rfl
  · cases c with
    | int k => rfl
    | bool k => cases i <;> cases k <;> rfl
    | _ => rfl
theorem eqv_pr {c e a b : PyData} : PyData.eqv (.tuple [c, e]) (.tuple [a, b]) = (PyData.eqv c a && PyData.eqv e b) := by
  first
  | rfl
  | (simp [PyData.eqv, PyData.eqvAll]; done)
theorem eqv_pair {r a b : PyData} (h : PyData.eqv r (.tuple [a, b]) = true) : ∃ c e, r = .tuple [c, e] := by
  cases r with
  | tuple ds =>
    rcases ds with _ | ⟨c, _ | ⟨e, _ | ⟨g, r⟩⟩⟩
    · first | cases h | (simp [PyData.eqv, PyData.eqvAll] at h; done)
    · first | cases h | (simp [PyData.eqv, PyData.eqvAll] at h; done)
    · exact ⟨c, e, rfl⟩
    · first | cases h | (simp [PyData.eqv, PyData.eqvAll] at h; done)
  | _ => first | cases h | (simp [PyData.eqv] at h; done)
theorem eqv_two {r a b : PyData} (ha : intish a = true) (hb : intish b = true) (h : PyData.eqv r (.tuple [a, b]) = true) :
    ∃ c e, r = .tuple [c, e] ∧ intish c = true ∧ intish e = true ∧ numOf c = numOf a ∧ numOf e = numOf b := by
  obtain ⟨c, e, rfl⟩ := eqv_pair h
  rw [eqv_pr, eqv_num ha, eqv_num hb] at h
  simp only [Bool.and_eq_true, decide_eq_true_eq] at h
  exact ⟨c, e, rfl, h.1.1, h.2.1, h.1.2, h.2.2⟩
theorem coo_is {d : PyData} (h : intish d = true) (r : 0 ≤ numOf d ∧ numOf d ≤ 30) : cooB d = !boolish d := by
  rcases ish_cases h with ⟨i, rfl⟩ | ⟨b, rfl⟩
  · have r : 0 ≤ i ∧ i ≤ 30 := r
    show (decide (0 ≤ i) && decide (i ≤ 30)) = true
    rw [decide_eq_true r.1, decide_eq_true r.2]
    rfl
  · rfl
theorem num_big {d : PyData} (h : intish d = true) (r : 2 ≤ numOf d) : boolish d = false := by
  rcases ish_cases h with ⟨i, rfl⟩ | ⟨b, rfl⟩
  · rfl
  · cases b <;> exact absurd r (by decide)
theorem edge_is {a b c e : PyData} (ha : intish a = true) (hb : intish b = true) (hc : intish c = true) (he : intish e = true) (ra : 0 ≤ numOf a ∧ numOf a ≤ 30) (rb : 0 ≤ numOf b ∧ numOf b ≤ 30) (rc : 0 ≤ numOf c ∧ numOf c ≤ 30) (re : 0 ≤ numOf e ∧ numOf e ≤ 30)
    (st : (numOf c = numOf a ∧ numOf e = numOf b + 1) ∨ (numOf c = numOf a + 1 ∧ numOf e = numOf b)) : edgeB (.tuple [.tuple [a, b], .tuple [c, e]]) = !((boolish a || boolish b) || (boolish c || boolish e)) := by
  show ((cooB a && cooB b) && ((cooB c && cooB e) && stepB _ _)) = _
  rw [coo_is ha ra, coo_is hb rb, coo_is hc rc, coo_is he re]
  rcases ish_cases ha with ⟨i, rfl⟩ | ⟨i, rfl⟩
  · rcases ish_cases hb with ⟨j, rfl⟩ | ⟨j, rfl⟩
    · rcases ish_cases hc with ⟨k, rfl⟩ | ⟨k, rfl⟩
      · rcases ish_cases he with ⟨l, rfl⟩ | ⟨l, rfl⟩
        · show stepB _ _ = true
          show ((decide (k - i = 1) && decide (l - j = 0)) || (decide (k - i = 0) && decide (l - j = 1))) = true
          simp only [Bool.or_eq_true, Bool.and_eq_true, decide_eq_true_eq]
          have st : (k = i ∧ l = j + 1) ∨ (k = i + 1 ∧ l = j) := st
          omega
        · rfl
      · rfl
    · rfl
  · rfl
theorem edge_no {a b r : PyData} (ha : intish a = true) (hb : intish b = true) (n1 : ¬ (PyData.eqv r (.tuple [a, .int (numOf b + 1)]) = true ∧ numOf b < 30)) (n2 : ¬ (PyData.eqv r (.tuple [.int (numOf a + 1), b]) = true ∧ numOf a < 30)) : edgeB (.tuple [.tuple [a, b], r]) = false := by
  refine Bool.eq_false_iff.mpr fun z => ?_
  have z : (ptB (.tuple [a, b]) && (ptB r && stepB (.tuple [a, b]) r)) = true := z
  simp only [Bool.and_eq_true] at z
  obtain ⟨z1, z2, z3⟩ := z
  obtain ⟨i, j, e1, b1⟩ := pt_of z1
  obtain ⟨k, l, rfl, b2⟩ := pt_of z2
  cases e1
  rw [eqv_pr, eqv_num ha, eqv_num (show intish (.int _) = true from rfl)] at n1
  rw [eqv_pr, eqv_num hb, eqv_num (show intish (.int _) = true from rfl)] at n2
  have z3 : ((decide (k - i = 1) && decide (l - j = 0)) || (decide (k - i = 0) && decide (l - j = 1))) = true := z3
  simp only [Bool.or_eq_true, Bool.and_eq_true, decide_eq_true_eq] at z3
  have n1 : ¬ (((true && decide (k = i)) && (true && decide (l = j + 1))) = true ∧ j < 30) := n1
  have n2 : ¬ (((true && decide (k = i + 1)) && (true && decide (l = j))) = true ∧ i < 30) := n2
  simp only [Bool.true_and, Bool.and_eq_true, decide_eq_true_eq] at n1 n2
  omega
section
variable {P : Program} {w : World} {K : PySem.W.Frag} {mg : Str → Option Value} {base : Heap}
theorem spNum_len {n : Str} : ∀ (vs : List V) (H : Hp) (Q : VK) (E : XK), spNum vs H Q E → vs.length = [n].length := fun vs H Q E h => by
  obtain ⟨v, d, rfl, _⟩ := h
  rfl
theorem scEN : FnScope ["value", "point", "other", "x", "y", "number", "far_x", "far_y"] ["value"] (defScope (top 16)) := ⟨rfl, rfl, rfl, by decide +kernel, rfl, by decide +kernel, by decide +kernel⟩

theorem ok_enum {f fT : Addr} {fd fdT : FuncData} (F : Fun K "edge_number" "edge_number" (top 16) f fd) (T : Ta mg) (hS : ∃ t, mg "SIDE" = some (.int 31 t)) (GT : FnOk P w K mg base CX0 1 fT fdT ["x", "y"] spTr) (AT : At K mg "_has_truth" fT fdT ["x", "y"]) :
    FnOk P w K mg base CX0 3 f fd ["value"] spNum := by
  refine F.ok scEN spNum_len (fun cdv A outer s H vs Q E hr h => ?_)
  obtain ⟨v, d, rfl, dv, fl, qn, qi⟩ := h
  obtain ⟨tL, hL⟩ := T.last
  obtain ⟨tS, hS⟩ := hS
  have hu : (A.deeper (envOfC "edge_number" (defScope (top 16)) s.heap.objs.size f cdv)).units + 64 < cLine := by
    have := hr.un
    omega
  refine ⟨_, (pss_cons (ps_if (PW.pt (pw_or (pt_not (pt_val (pe_callB call_isi (by rfl) T.isi (by decide +kernel) (pa_cons (pv 0) (pa_cons (pe_bltn (v := .ty "tuple") (u := .type "tuple") (by rfl) T.tup (by decide +kernel) rfl) pa_nil))))) (pw_or1 (pt_cmpR op_ne (pe_callB call_len_seq (by rfl) T.len PySem.boot_len (pa_cons (pv 0) pa_nil)) pe_int (nomark _))))) (pss_one (ps_ret pe_non)) pss_nil)
    (pss_cons (ps_asg (pv 0) (pg_tup rfl (pgs_cons (pg_name (i := 1) scEN.nd rfl (Or.inl rfl)) (pgs_cons (pg_name (i := 2) scEN.nd rfl (Or.inl rfl)) pgs_nil))))
    (pss_cons (ps_if (PW.pt (pw_or (pt_not (pt_val (pe_callB call_isi (by rfl) T.isi (by decide +kernel) (pa_cons (pv 1) (pa_cons (pe_bltn (v := .ty "tuple") (u := .type "tuple") (by rfl) T.tup (by decide +kernel) rfl) pa_nil))))) (pw_or1 (pt_cmpR op_ne (pe_callB call_len_seq (by rfl) T.len PySem.boot_len (pa_cons (pv 1) pa_nil)) pe_int (nomark _))))) (pss_one (ps_ret pe_non)) pss_nil)
    (pss_cons (ps_asg (pv 1) (pg_tup rfl (pgs_cons (pg_name (i := 3) scEN.nd rfl (Or.inl rfl)) (pgs_cons (pg_name (i := 4) scEN.nd rfl (Or.inl rfl)) pgs_nil))))
    (pss_cons (ps_if (PW.pt (pw_or (pt_not (pt_val (pe_callB call_isi (by rfl) T.isi (by decide +kernel) (pa_cons (pv 3) (pa_cons (pe_bltn (v := .ty "int") (u := .type "int") (by rfl) T.int (by decide +kernel) rfl) pa_nil))))) (pw_or (pt_not (pt_val (pe_callB call_isi (by rfl) T.isi (by decide +kernel) (pa_cons (pv 4) (pa_cons (pe_bltn (v := .ty "int") (u := .type "int") (by rfl) T.int (by decide +kernel) rfl) pa_nil))))) (pw_or (pt_not (pt_chain op_leIN op_leNI pe_int (pv 3) (pe_glob (v := .int 30) rfl hL ⟨_, rfl⟩))) (pw_or1 (pt_not (pt_chain op_leIN op_leNI pe_int (pv 4) (pe_glob (v := .int 30) rfl hL ⟨_, rfl⟩)))))))) (pss_one (ps_ret pe_non)) pss_nil)
    (pss_cons (ps_if (PW.pt (pw_and (pt_cmpR (op_eqD hu) (pv 2) (pe_tup (pa_cons (pv 3) (pa_cons (pe_op op_addNI (pv 4) pe_int) pa_nil))) (by rfl)) (pw_and1 (pt_cmpR op_ltNI (pv 4) (pe_glob (v := .int 30) rfl hL ⟨_, rfl⟩) (nomark _)))))
      (pss_one (ps_set (i := 5) scEN.nd rfl (Or.inl rfl) (pe_op op_mul pe_int (pe_op op_addIN (pe_op op_mulIN (pe_glob (v := .int 31) rfl hS ⟨_, rfl⟩) (pv 3)) (pv 4)))))
      (pss_one (ps_if (PW.pt (pw_and (pt_cmpR (op_eqD hu) (pv 2) (pe_tup (pa_cons (pe_op op_addNI (pv 3) pe_int) (pa_cons (pv 4) pa_nil))) (by rfl)) (pw_and1 (pt_cmpR op_ltNI (pv 3) (pe_glob (v := .int 30) rfl hL ⟨_, rfl⟩) (nomark _)))))
      (pss_one (ps_set (i := 5) scEN.nd rfl (Or.inl rfl) (pe_op op_add (pe_op op_mul pe_int (pe_op op_addIN (pe_op op_mulIN (pe_glob (v := .int 31) rfl hS ⟨_, rfl⟩) (pv 3)) (pv 4))) pe_int))) (pss_one (ps_ret pe_non)))))
    (pss_cons (ps_if (PW.pt (pw_or (pt_cmpR op_ltNI (pv 3) pe_int (nomark _)) (pw_or1 (pt_cmpR op_ltNI (pv 4) pe_int (nomark _)))))
      (pss_cons (ps_asg (pv 2) (pg_tup rfl (pgs_cons (pg_name (i := 6) scEN.nd rfl (Or.inl rfl)) (pgs_cons (pg_name (i := 7) scEN.nd rfl (Or.inl rfl)) pgs_nil)))) (pss_one (ps_if (PW.pt (pw_or (pt_val (pe_call GT (hr.mono (by decide)) rfl AT.g AT.k AT.b .nil pass0 (pa_cons (pv 3) (pa_cons (pv 4) pa_nil)))) (pw_or1 (pt_val (pe_call GT (hr.mono (by decide)) rfl AT.g AT.k AT.b .nil pass0 (pa_cons (pv 6) (pa_cons (pv 7) pa_nil))))))) (pss_one (ps_ret pe_non)) pss_nil))) pss_nil)
    (pss_one (ps_ret (pv 5)))))))))), ?_⟩
  refine ⟨_, rfl, _, .ty "tuple", .type (tyN d), .type "tuple", _, rfl, .ty _, ty_of dv, kit_ty (kit_tuple d), _, rfl, ?_⟩
  cases e : tupish d with
  | false => exact qn (edge_nopair (pair_tup e)) H (same0 H)
  | true =>
    obtain ⟨ds, rfl⟩ := tupish_of e
    obtain ⟨a, xs, rfl, h1, r0⟩ := dv_tup dv
    refine ⟨_, rfl, a, xs, rfl, .inr (sqt h1), rfl, _, rfl, ?_⟩
    cases e1 : (!decide (V.int (xs.length : Int) = V.int 2)) with
    | true =>
      rw [r0.length] at e1
      exact qn (edge_nopair (pair_nolen e1)) H (same0 H)
    | false =>
      rw [r0.length] at e1
      obtain ⟨p, r, rfl⟩ := pair_len e1
      obtain ⟨a', vp, vr, ea, h1', hp, hvr⟩ := dv_pair dv
      cases ea
      obtain ⟨fr, sr⟩ := fl p r rfl
      refine ⟨_, rfl, a, _, rfl, sqt h1', rfl, _, _, rfl, _, _, rfl, rfl, ?_⟩
      refine ⟨_, rfl, _, .ty "tuple", .type (tyN p), .type "tuple", _, rfl, .ty _, ty_of hp, kit_ty (kit_tuple p), _, rfl, ?_⟩
      cases e2 : tupish p with
      | false => exact qn (edge_nopt (ptB_pair (pair_tup e2))) H (same0 H)
      | true =>
        obtain ⟨ps, rfl⟩ := tupish_of e2
        obtain ⟨b, ys, rfl, h2, r2⟩ := dv_tup hp
        refine ⟨_, rfl, b, ys, rfl, .inr (sqt h2), rfl, _, rfl, ?_⟩
        cases e3 : (!decide (V.int (ys.length : Int) = V.int 2)) with
        | true =>
          rw [r2.length] at e3
          exact qn (edge_nopt (ptB_pair (pair_nolen e3))) H (same0 H)
        | false =>
          rw [r2.length] at e3
          obtain ⟨dx, dy, rfl⟩ := pair_len e3
          obtain ⟨b', x, y, eb, h2', hx, hy⟩ := dv_pair hp
          cases eb
          refine ⟨_, rfl, b, _, rfl, sqt h2', rfl, _, _, rfl, _, _, rfl, rfl, ?_⟩
          refine ⟨_, rfl, _, .ty "int", .type (tyN dx), .type "int", _, rfl, .ty _, ty_of hx, kit_ty (kit_int dx), _, rfl, ?_⟩
          cases i1 : intish dx with
          | false => exact qn (edge_nopt (pt_no1 (coo_ish i1))) H (same0 H)
          | true =>
            refine ⟨_, rfl, _, .ty "int", .type (tyN dy), .type "int", _, rfl, .ty _, ty_of hy, kit_ty (kit_int dy), _, rfl, ?_⟩
            cases i2 : intish dy with
            | false => exact qn (edge_nopt (pt_no2 (coo_ish i2))) H (same0 H)
            | true =>
              have nX := isN_of hx i1
              have nY := isN_of hy i2
              refine ⟨_, rfl, _, _, rfl, nX, _, rfl, ite2 (fun x0 => ?_) (fun x0 => ?_)⟩
              · refine ⟨_, _, nX, rfl, _, rfl, ?_⟩
                cases x1 : decide (numOf dx ≤ 30) with
                | false => exact qn (edge_nopt (pt_no1 (coo_num fun z => of_decide_eq_false x1 z.2))) H (same0 H)
                | true =>
                  refine ⟨_, rfl, _, _, rfl, nY, _, rfl, ite2 (fun y0 => ?_) (fun y0 => ?_)⟩
                  · refine ⟨_, _, nY, rfl, _, rfl, ?_⟩
                    cases y1 : decide (numOf dy ≤ 30) with
                    | false => exact qn (edge_nopt (pt_no2 (coo_num fun z => of_decide_eq_false y1 z.2))) H (same0 H)
                    | true =>
                      have x0 : 0 ≤ numOf dx := of_decide_eq_true x0
                      have x1 : numOf dx ≤ 30 := of_decide_eq_true x1
                      have y0 : 0 ≤ numOf dy := of_decide_eq_true y0
                      have y1 : numOf dy ≤ 30 := of_decide_eq_true y1
                      refine ⟨_, rfl, _, rfl, _, rfl, _, _, nY, rfl, (by show 2 ≤ sizeLine; decide), fun p1 hp1 => ?_⟩
                      have s1 : Same H (upd H p1 (.tup [x, .int (numOf dy + 1)])) := fun b o e => stay e hp1
                      refine ⟨r, .tuple [dx, .int (numOf dy + 1)], dv_dp (hvr.more s1) fr, .tup (sqt upd_same) (.cons (dv_dp (hx.more s1) (ish_flat i1)) (.cons (.int _) .nil)), sr, shaped_nn i1 rfl, _, rfl, ite2 (fun q1 => ?_) (fun q1 => ?_)⟩
                      · refine ⟨_, rfl, _, _, nY, rfl, _, rfl, ite2 (fun w1 => ?_) (fun w1 => ?_)⟩
                        · have w1 : numOf dy < 30 := of_decide_eq_true w1
                          refine ⟨_, rfl, _, _, rfl, nX, (by decide), _, rfl, _, _, rfl, nY, _, _, rfl, rfl, .inl (by decide), ?_⟩
                          obtain ⟨c, e4, rfl, ic, ie, nc, ne⟩ := eqv_two i1 (show intish (.int _) = true from rfl) q1
                          have nc : numOf c = numOf dx := nc
                          have ne : numOf e4 = numOf dy + 1 := ne
                          have ed := edge_is (a := dx) (b := dy) (c := c) (e := e4) i1 i2 ic ie (by omega) (by omega) (by omega) (by omega) (by omega)
                          have hn : numE (.tuple [.tuple [dx, dy], .tuple [c, e4]]) = 2 * (31 * numOf dx + numOf dy) := by
                            show 2 * (31 * numOf dx + numOf dy) + (if numOf c = numOf dx + 1 then 1 else 0) = _
                            rw [if_neg (by omega)]
                            omega
                          have qv : edgeB (.tuple [.tuple [dx, dy], .tuple [c, e4]]) = true → ∀ H', Same H H' → Q (.int (2 * (31 * numOf dx + numOf dy))) H' := fun h H' s => by have := qi h H' s; rwa [hn] at this
                          obtain ⟨br, vc, ve, er, hbr, hc, he⟩ := dv_pair (hvr.more s1)
                          subst er
                          refine ⟨_, rfl, _, _, nX, rfl, _, rfl, ite2 (fun c1 => ?_) (fun c1 => ⟨_, rfl, _, _, nY, rfl, _, rfl, ite2 (fun c2 => ?_) (fun c2 => ?_)⟩)⟩
                          · refine ⟨_, rfl, br, _, rfl, sqt hbr, rfl, _, _, rfl, _, _, rfl, rfl, ?_⟩
                            refine ⟨_, rfl, _, rfl, x, y, dx, dy, rfl, hx.more s1, hy.more s1, i1, i2, _, rfl, ite2 (fun t1 => ?_) (fun t1 => ?_)⟩
                            · exact qn (by rw [ed, t1]; rfl) _ s1
                            · refine ⟨_, rfl, _, rfl, vc, ve, c, e4, rfl, hc, he, ic, ie, _, rfl, ite2 (fun t2 => ?_) (fun t2 => ?_)⟩
                              · exact qn (by rw [ed, t2, Bool.or_true]; rfl) _ s1
                              · exact ⟨_, rfl, qv (by rw [ed, (Bool.not_eq_true _).mp t1, (Bool.not_eq_true _).mp t2]; rfl) _ s1⟩
                          · refine ⟨_, rfl, br, _, rfl, sqt hbr, rfl, _, _, rfl, _, _, rfl, rfl, ?_⟩
                            refine ⟨_, rfl, _, rfl, x, y, dx, dy, rfl, hx.more s1, hy.more s1, i1, i2, _, rfl, ite2 (fun t1 => ?_) (fun t1 => ?_)⟩
                            · exact qn (by rw [ed, t1]; rfl) _ s1
                            · refine ⟨_, rfl, _, rfl, vc, ve, c, e4, rfl, hc, he, ic, ie, _, rfl, ite2 (fun t2 => ?_) (fun t2 => ?_)⟩
                              · exact qn (by rw [ed, t2, Bool.or_true]; rfl) _ s1
                              · exact ⟨_, rfl, qv (by rw [ed, (Bool.not_eq_true _).mp t1, (Bool.not_eq_true _).mp t2]; rfl) _ s1⟩
                          · have c1 : ¬ numOf dx < 2 := fun z => c1 (decide_eq_true z)
                            have c2 : ¬ numOf dy < 2 := fun z => c2 (decide_eq_true z)
                            exact ⟨_, rfl, qv (by rw [ed, num_big i1 (by omega), num_big i2 (by omega), num_big ic (by omega), num_big ie (by omega)]; rfl) _ s1⟩
                        · refine ⟨_, rfl, _, rfl, _, _, nX, rfl, _, rfl, (by show 2 ≤ sizeLine; decide), fun p2 hp2 => ?_⟩
                          have s2 : Same H (upd (upd H p1 (.tup [x, .int (numOf dy + 1)])) p2 (.tup [.int (numOf dx + 1), y])) := fun b o e => stay (s1 b o e) hp2
                          refine ⟨r, .tuple [.int (numOf dx + 1), dy], dv_dp (hvr.more s2) fr, .tup (sqt upd_same) (.cons (.int _) (.cons (dv_dp (hy.more s2) (ish_flat i2)) .nil)), sr, shaped_nn rfl i2, _, rfl, ite2 (fun q2 => ?_) (fun q2 => ?_)⟩
                          · refine ⟨_, rfl, _, _, nX, rfl, _, rfl, ite2 (fun w2 => ?_) (fun w2 => ?_)⟩
                            · have w2 : numOf dx < 30 := of_decide_eq_true w2
                              refine ⟨_, rfl, _, _, rfl, nX, (by decide), _, rfl, _, _, rfl, nY, _, _, rfl, rfl, .inl (by decide), _, _, rfl, rfl, ?_⟩
                              obtain ⟨c, e4, rfl, ic, ie, nc, ne⟩ := eqv_two (show intish (.int _) = true from rfl) i2 q2
                              have nc : numOf c = numOf dx + 1 := nc
                              have ne : numOf e4 = numOf dy := ne
                              have ed := edge_is (a := dx) (b := dy) (c := c) (e := e4) i1 i2 ic ie (by omega) (by omega) (by omega) (by omega) (by omega)
                              have hn : numE (.tuple [.tuple [dx, dy], .tuple [c, e4]]) = 2 * (31 * numOf dx + numOf dy) + 1 := by
                                show 2 * (31 * numOf dx + numOf dy) + (if numOf c = numOf dx + 1 then 1 else 0) = _
                                rw [if_pos (by omega)]
                              have qv : edgeB (.tuple [.tuple [dx, dy], .tuple [c, e4]]) = true → ∀ H', Same H H' → Q (.int (2 * (31 * numOf dx + numOf dy) + 1)) H' := fun h H' s => by have := qi h H' s; rwa [hn] at this
                              obtain ⟨br, vc, ve, er, hbr, hc, he⟩ := dv_pair (hvr.more s2)
                              subst er
                              refine ⟨_, rfl, _, _, nX, rfl, _, rfl, ite2 (fun c1 => ?_) (fun c1 => ⟨_, rfl, _, _, nY, rfl, _, rfl, ite2 (fun c2 => ?_) (fun c2 => ?_)⟩)⟩
                              · refine ⟨_, rfl, br, _, rfl, sqt hbr, rfl, _, _, rfl, _, _, rfl, rfl, ?_⟩
                                refine ⟨_, rfl, _, rfl, x, y, dx, dy, rfl, hx.more s2, hy.more s2, i1, i2, _, rfl, ite2 (fun t1 => ?_) (fun t1 => ?_)⟩
                                · exact qn (by rw [ed, t1]; rfl) _ s2
                                · refine ⟨_, rfl, _, rfl, vc, ve, c, e4, rfl, hc, he, ic, ie, _, rfl, ite2 (fun t2 => ?_) (fun t2 => ?_)⟩
                                  · exact qn (by rw [ed, t2, Bool.or_true]; rfl) _ s2
                                  · exact ⟨_, rfl, qv (by rw [ed, (Bool.not_eq_true _).mp t1, (Bool.not_eq_true _).mp t2]; rfl) _ s2⟩
                              · refine ⟨_, rfl, br, _, rfl, sqt hbr, rfl, _, _, rfl, _, _, rfl, rfl, ?_⟩
                                refine ⟨_, rfl, _, rfl, x, y, dx, dy, rfl, hx.more s2, hy.more s2, i1, i2, _, rfl, ite2 (fun t1 => ?_) (fun t1 => ?_)⟩
                                · exact qn (by rw [ed, t1]; rfl) _ s2
                                · refine ⟨_, rfl, _, rfl, vc, ve, c, e4, rfl, hc, he, ic, ie, _, rfl, ite2 (fun t2 => ?_) (fun t2 => ?_)⟩
                                  · exact qn (by rw [ed, t2, Bool.or_true]; rfl) _ s2
                                  · exact ⟨_, rfl, qv (by rw [ed, (Bool.not_eq_true _).mp t1, (Bool.not_eq_true _).mp t2]; rfl) _ s2⟩
                              · have c1 : ¬ numOf dx < 2 := fun z => c1 (decide_eq_true z)
                                have c2 : ¬ numOf dy < 2 := fun z => c2 (decide_eq_true z)
                                exact ⟨_, rfl, qv (by rw [ed, num_big i1 (by omega), num_big i2 (by omega), num_big ic (by omega), num_big ie (by omega)]; rfl) _ s2⟩
                            · exact qn (edge_no i1 i2 (fun z => w1 (decide_eq_true z.2)) fun z => w2 (decide_eq_true z.2)) _ s2
                          · exact qn (edge_no i1 i2 (fun z => w1 (decide_eq_true z.2)) fun z => q2 z.1) _ s2
                      · refine ⟨_, rfl, _, rfl, _, _, nX, rfl, _, rfl, (by show 2 ≤ sizeLine; decide), fun p2 hp2 => ?_⟩
                        have s2 : Same H (upd (upd H p1 (.tup [x, .int (numOf dy + 1)])) p2 (.tup [.int (numOf dx + 1), y])) := fun b o e => stay (s1 b o e) hp2
                        refine ⟨r, .tuple [.int (numOf dx + 1), dy], dv_dp (hvr.more s2) fr, .tup (sqt upd_same) (.cons (.int _) (.cons (dv_dp (hy.more s2) (ish_flat i2)) .nil)), sr, shaped_nn rfl i2, _, rfl, ite2 (fun q2 => ?_) (fun q2 => ?_)⟩
                        · refine ⟨_, rfl, _, _, nX, rfl, _, rfl, ite2 (fun w2 => ?_) (fun w2 => ?_)⟩
                          · have w2 : numOf dx < 30 := of_decide_eq_true w2
                            refine ⟨_, rfl, _, _, rfl, nX, (by decide), _, rfl, _, _, rfl, nY, _, _, rfl, rfl, .inl (by decide), _, _, rfl, rfl, ?_⟩
                            obtain ⟨c, e4, rfl, ic, ie, nc, ne⟩ := eqv_two (show intish (.int _) = true from rfl) i2 q2
                            have nc : numOf c = numOf dx + 1 := nc
                            have ne : numOf e4 = numOf dy := ne
                            have ed := edge_is (a := dx) (b := dy) (c := c) (e := e4) i1 i2 ic ie (by omega) (by omega) (by omega) (by omega) (by omega)
                            have hn : numE (.tuple [.tuple [dx, dy], .tuple [c, e4]]) = 2 * (31 * numOf dx + numOf dy) + 1 := by
                              show 2 * (31 * numOf dx + numOf dy) + (if numOf c = numOf dx + 1 then 1 else 0) = _
                              rw [if_pos (by omega)]
                            have qv : edgeB (.tuple [.tuple [dx, dy], .tuple [c, e4]]) = true → ∀ H', Same H H' → Q (.int (2 * (31 * numOf dx + numOf dy) + 1)) H' := fun h H' s => by have := qi h H' s; rwa [hn] at this
                            obtain ⟨br, vc, ve, er, hbr, hc, he⟩ := dv_pair (hvr.more s2)
                            subst er
                            refine ⟨_, rfl, _, _, nX, rfl, _, rfl, ite2 (fun c1 => ?_) (fun c1 => ⟨_, rfl, _, _, nY, rfl, _, rfl, ite2 (fun c2 => ?_) (fun c2 => ?_)⟩)⟩
                            · refine ⟨_, rfl, br, _, rfl, sqt hbr, rfl, _, _, rfl, _, _, rfl, rfl, ?_⟩
                              refine ⟨_, rfl, _, rfl, x, y, dx, dy, rfl, hx.more s2, hy.more s2, i1, i2, _, rfl, ite2 (fun t1 => ?_) (fun t1 => ?_)⟩
                              · exact qn (by rw [ed, t1]; rfl) _ s2
                              · refine ⟨_, rfl, _, rfl, vc, ve, c, e4, rfl, hc, he, ic, ie, _, rfl, ite2 (fun t2 => ?_) (fun t2 => ?_)⟩
                                · exact qn (by rw [ed, t2, Bool.or_true]; rfl) _ s2
                                · exact ⟨_, rfl, qv (by rw [ed, (Bool.not_eq_true _).mp t1, (Bool.not_eq_true _).mp t2]; rfl) _ s2⟩
                            · refine ⟨_, rfl, br, _, rfl, sqt hbr, rfl, _, _, rfl, _, _, rfl, rfl, ?_⟩
                              refine ⟨_, rfl, _, rfl, x, y, dx, dy, rfl, hx.more s2, hy.more s2, i1, i2, _, rfl, ite2 (fun t1 => ?_) (fun t1 => ?_)⟩
                              · exact qn (by rw [ed, t1]; rfl) _ s2
                              · refine ⟨_, rfl, _, rfl, vc, ve, c, e4, rfl, hc, he, ic, ie, _, rfl, ite2 (fun t2 => ?_) (fun t2 => ?_)⟩
                                · exact qn (by rw [ed, t2, Bool.or_true]; rfl) _ s2
                                · exact ⟨_, rfl, qv (by rw [ed, (Bool.not_eq_true _).mp t1, (Bool.not_eq_true _).mp t2]; rfl) _ s2⟩
                            · have c1 : ¬ numOf dx < 2 := fun z => c1 (decide_eq_true z)
                              have c2 : ¬ numOf dy < 2 := fun z => c2 (decide_eq_true z)
                              exact ⟨_, rfl, qv (by rw [ed, num_big i1 (by omega), num_big i2 (by omega), num_big ic (by omega), num_big ie (by omega)]; rfl) _ s2⟩
                          · exact qn (edge_no i1 i2 (fun z => q1 z.1) fun z => w2 (decide_eq_true z.2)) _ s2
                        · exact qn (edge_no i1 i2 (fun z => q1 z.1) fun z => q2 z.1) _ s2
                  · exact ⟨_, rfl, qn (edge_nopt (pt_no2 (coo_num fun z => y0 (decide_eq_true z.1)))) H (same0 H)⟩
              · exact ⟨_, rfl, qn (edge_nopt (pt_no1 (coo_num fun z => x0 (decide_eq_true z.1)))) H (same0 H)⟩
end
end Y1
set_option Elab.async false
set_option linter.all false
set_option maxRecDepth 100000
set_option maxHeartbeats 4000000
/-! sorted(d) of a dict of any size whose keys are ints; tuple(d.values()); a loop over a list or a tuple. -/
namespace Nv
open PySem PySem.Spec PyProof.Rows L2

theorem pi_or {X : Cx} {tg e : Expr} {t1 t2 : TI} (h1 : PI X tg e t1) (h2 : PI X tg e t2) : PI X tg e (fun σ H R => t1 σ H R ∨ t2 σ H R) :=
  ⟨fun pins s σ H R I h => h.elim (h1.run pins s σ H R I) (h2.run pins s σ H R I)⟩

/-- what was gathered of the keys: ints -/
theorem ints_keys {vs : List (Key × Value)} {ks : List Int} {acc : Array Value} (e : vs.map (·.1) = ks.map Sum.inl) (g : ItemsOf (fun i v => ∃ k x, vs[i]? = some (k, x) ∧ keyIs k v = true) acc vs.length) : IntsAre acc.toList ks := by
  have ln : vs.length = ks.length := by simpa using congrArg List.length e
  refine ints_each (by rw [Array.length_toList, g.1, ln]) fun j v ev => ?_
  obtain ⟨k, x, h1, h2⟩ := g.2 j v (by simpa using ev)
  have hk : (ks.map (Sum.inl : Int → Key))[j]? = some k := by rw [← e, List.getElem?_map, h1]; rfl
  rw [List.getElem?_map, Option.map_eq_some_iff] at hk
  obtain ⟨y, hy, rfl⟩ := hk
  obtain ⟨t, rfl⟩ := Value.isInt_shape (show Value.isInt y v = true from h2)
  exact ⟨y, t, hy, rfl⟩
section
variable {X : Cx}
/-- sorted(d) of a dict whose keys are ints, any number of them -/
def rSortDw : List V → Hp → VK → Prop := fun xs H Q => ∃ (a : Addr) (kvs : List (Key × V)) (ks : List Int), xs = [.ref a] ∧ Rd H a (.dK kvs) ∧ kvs.map (·.1) = ks.map Sum.inl ∧
  ∀ (ys : List Int) (p : Addr), ys.Perm ks → ys.Pairwise (· ≤ ·) → H p = none → Q (.ref p) (upd H p (.lst (ys.map V.int)))
theorem call_sortedDw (calm : X.calm = true) : CallR X (.builtin "sorted") rSortDw := by
  rintro pins s σ H _ us Q I r ⟨a, kvs, ks, rfl, rd, hks, q⟩
  obtain ⟨_, rfl, rfl⟩ : ∃ u, us = [u] ∧ u = Value.ref a := by
    obtain ⟨u, e, rx⟩ := vals1 r
    exact ⟨u, e, rx⟩
  obtain ⟨big, lo, vs, kv, dof⟩ := dk_rd I.hok rd
  obtain ⟨ep, dat⟩ := dof.dictAt
  have same : vs.map (·.1) = ks.map Sum.inl := by rw [← kv.keys]; exact hks
  have nvs : vs.length ≤ sizeLine := by rw [← Paired.length kv]; exact big
  have nks : ks.length ≤ sizeLine := by
    have := congrArg List.length same
    simp only [List.length_map] at this
    omega
  refine Calls.call_function_entry PyProof.Rows.kind_sorted PyProof.Rows.plain_sorted PyProof.Rows.entry_sorted (PyProof.Rows.args_sorted1 _) ?_
  unfold Builtin.«sorted»
  refine wpAny_bind (m := checkCount "sorted" 1 1 _) (wpAny_pure (wpAny_bind (PySem.W.kdu_collect (A := X.A.in1) (PySem.W.kdl_dict (knd := mixKind X.prog X.w) (kvs := vs) (ep := ep) lo) (I.ok.hd calm) dat nvs fun G tk acc kept got => ?_)))
  have ai := ints_keys same got
  have al : acc.toList.length ≤ sizeLine := by rw [ai.length]; exact nks
  have J : Inv X pins σ H { s with heap := G, toks := tk } := I.kept kept
  have at_ : (G.push (seqObj "list" acc.toList.toArray 0)).get? G.objs.size = some (seqObj "list" acc.toList.toArray 0) := Heap.get?_push_size _ rfl
  refine wpAny_bind (wpAny_newList ?_ al)
  refine wpAny_bind (wpAny_holding (wpAny_call_entry PyProof.Rows.slot_list_sort ⟨_, at_, rfl⟩ PyProof.Rows.entry_list_sort ?_ (PyProof.Rows.args_list_sort _)))
  refine SrtO.list_sort_ord (s := { s with heap := G.push (seqObj "list" acc.toList.toArray 0), toks := tk }) SrtO.swo_int at_ al (fun two => SrtO.ints_sortable ai two) fun out o1 o2 => ⟨_, rfl, ?_⟩
  obtain ⟨w1, w2, w3⟩ := SrtO.ints_out ai o1 o2
  obtain ⟨n, put⟩ := PyProof.Rows.sortedHeap_at (vs := acc.toList) (out := out.toArray) at_
  refine wpAny_pure ⟨_, rfl, .ref G.objs.size, _, J.laid (t' := tk) (o := .lst ((out.map SrtO.iv).map V.int)) (fun b u e => ?_) (Nat.le_refl _) ⟨?_, out, n, vals_of_ints w1, put⟩, rfl, q _ _ w2 w3 (J.hok.fresh (Nat.le_refl _))⟩
  · have lt := Heap.lt_size e
    rw [PyProof.Rows.sortedHeap_old (Nat.ne_of_lt lt) (by rw [size_push']; exact Nat.lt_succ_of_lt lt)]
    exact Heap.get?_push_of_some _ e
  · rw [List.length_map, w2.length_eq]
    exact nks
end

theorem vals_each : ∀ {xs : List V} {us : List Value}, xs.length = us.length → (∀ (j : Nat) (v : Value), us[j]? = some v → ∃ x, xs[j]? = some x ∧ RelV x v) → Vals xs us
  | [], [], _, _ => .nil
  | [], _ :: _, e, _ => by simp at e
  | _ :: _, [], e, _ => by simp at e
  | x :: xs, u :: us, e, h => by
    obtain ⟨y, e1, r⟩ := h 0 u rfl
    have e2 : x = y := Option.some.inj (show some x = some y from e1)
    subst e2
    exact .cons r (vals_each (by simpa using e) fun j v q => h (j + 1) v (by simpa using q))
section
variable {prog : Program} {w : World} {A : Around} {E : Value → Shared → Prop} {s : Shared} {v d : Addr} {n : Nat} {Is : Nat → Value → Prop} {Ok : Heap → Prop}
/-- what tuple(view) leaves -/
def Tupled (Is : Nat → Value → Prop) (n : Nat) (s : Shared) (Q : Value → Shared → Prop) : Prop := ∀ (G : Heap) (tk : Nat) (its : Array Value), (∀ b o, s.heap.get? b = some o → G.get? b = some o) → ItemsOf Is its n →
  Q (.ref G.objs.size) { s with heap := G.push { cls := .type "tuple", data := .seq its }, toks := tk }
theorem new_of_view {R : Value → Shared → Prop} (src : PySem.W.KdlSrc prog w "dict_values" v d n Is Ok) (calm : A.handled = none) (ok : Ok s.heap) (few : n ≤ sizeLine) (h : Tupled Is n s R) :
    codeAny (model prog w) A (.call (.builtin "tuple.__new__") ⟨[.type "tuple", .ref v], []⟩) (wants R E) s := by
  have tv : s.TypeIs (.ref v) "dict_values" := src.type s ok
  have calm1 : A.in1.handled = none := calm
  have f1 := sub_tuple_self
  have f2 := init_tuple_lookup
  have f3 := madeHere_tuple
  apply codeAny_of_tree
  show wpAny _ A.in1 (checkBuiltinCall "tuple.__new__" ⟨[.type "tuple", .ref v], []⟩ >>= fun _ => again (.builtin "tuple.__new__" ⟨[.type "tuple", .ref v], []⟩)) _ _ s
  apply wpAny_bind
  refine wpAny_of_eq (F.newCall_tuple_1 _) (wpAny_pure ⟨plainId_quiet F.plain_tuple_new _, codeAny_builtin F.entry_tuple_new ?_⟩)
  rw [Around.under_plainId F.plain_tuple_new _]
  wp_walk using wpAny_typeOf tv, PySem.W.kdu_collect (A := A.in1) src calm1 ok few
  intro G tk its kept got
  have back : its.toList.toArray = its := by simp
  show wpAny _ _ (Builtin.Tuple.tupleExact its.toList.toArray >>= fun u => ret u) _ _ _
  rw [back]
  unfold Builtin.Tuple.tupleExact
  exact wpAny_bind (wpAny_newObj_type (wpAny_pure (h G tk its kept got)) (by show its.size ≤ sizeLine; rw [got.1]; exact few))
theorem tuple_of_view {Q : Value → Shared → Prop} (src : PySem.W.KdlSrc prog w "dict_values" v d n Is Ok) (calm : A.handled = none) (ok : Ok s.heap) (few : n ≤ sizeLine) (h : Tupled Is n s Q) :
    wpAny (model prog w) A (call (.type "tuple") [.ref v]) Q E s :=
  callType_codes (Q₁ := fun u s1 => s1.TypeIs u "tuple" ∧ Q u s1) F.called_tuple (F.typeCall_tuple_1 _) F.entry_object_init
    (new_of_view (A := A.in1) src calm ok few fun G tk its kept got => ⟨⟨_, Heap.get?_push_size _ rfl, rfl⟩, h G tk its kept got⟩)
    fun u s1 z => ⟨z.1, F.args_object_init_2 u _, object_init_meets F.called_tuple.init.lookup F.called_tuple.made (by decide) prog w A.in1 _ s1 ⟨z.1, rfl, z.2⟩⟩
end

section
variable {X : Cx} {o : Expr} {p pos apos mpos : Pos} {td : TE}
/-- tuple(o.values()) -/
theorem pe_tupVals (hc : X.calm = true) (hg : Gl X "tuple") (hm : X.mg "tuple" = none) (hd : PE X o td) (hbase : attributeBase o "values" X.env (eval o X.env) = eval o X.env := by rfl) (hline : (apos.endLine == mpos.line) = true := by rfl)
    (hse : starEach [Expr.Call (.Attribute o "values" apos) [] [] mpos] X.env = (false, eval (Expr.Call (.Attribute o "values" apos) [] [] mpos) X.env) :: starEach [] X.env := by rfl) :
    PE X (.Call (.Name "tuple" p) [.Call (.Attribute o "values" apos) [] [] mpos] [] pos) (fun σ H Q => td σ H fun x H1 => ∃ a kvs, x = V.ref a ∧ H1 a = some (.dK kvs) ∧ ∀ q, H1 q = none → Q (.ref q) (upd H1 q (.tup (kvs.map (·.2))))) := by
  constructor
  intro pins s σ H Q I h
  refine Call_ (ld_blt I hg hm boot_tuple (PyProof.Rows.callWith_type1 (args_cons (wpAny_Call_method0_late hbase hline (thn (hd.run pins s σ H _ I h) ?_)) hse) hse))
  rintro u s1 ⟨x, H1, I1, rx, a, kvs, rfl, ha, q⟩
  cases (show u = Value.ref a from rx)
  obtain ⟨big, lo, vs, kv, dof⟩ := dk_of I1.hok ha
  obtain ⟨ep, dat⟩ := dof.dictAt
  obtain ⟨ob, es, ho, ex, _⟩ := id dat
  refine ⟨"dict", "dict.values", F.plainAttrs_dict, F.slot_dict_values, F.type_dict_values, ⟨ob, ho, ex.1⟩, fun b e => by cases e; exact ⟨ob, ho, ex.2.1⟩, Calls.callWith_builtin rfl (PySem.evalArgs_none ?_)⟩
  refine call_meetsIn F.slot_dict_values ⟨ob, ho, ex.1⟩ F.entry_dict_values (F.args_dict_values_1 _) (meets_dict_values (mixKind X.prog X.w) a lo) ⟨⟨vs, dof⟩, args_nil ?_⟩
  have old : ∀ b u, s1.heap.get? b = some u → (s1.heap.push { cls := .type "dict_values", data := .fields #[.ref a] }).get? b = some u := fun b u e => Heap.get?_push_of_some _ e
  have ln : vs.length = kvs.length := (KV.length kv).symm
  refine tuple_of_view (PySem.W.kdl_values (knd := mixKind X.prog X.w) (kvs := vs) (ep := ep)) (I1.ok.hd hc) ⟨⟨_, Heap.get?_push_size _ rfl, rfl, rfl⟩, dat.keep old⟩ (by omega) fun G tk its kept got => ?_
  have J : Inv X pins σ H1 { s1 with heap := G, toks := tk } := I1.kept fun b u e => kept b u (old b u e)
  have rel : Vals (kvs.map (·.2)) its.toList := by
    refine vals_each (xs := kvs.map (·.2)) (us := its.toList) (by rw [List.length_map, ← ln, ← got.1]; exact (Array.length_toList).symm) fun j w e => ?_
    obtain ⟨k, e1⟩ := got.2 j w (by simpa using e)
    obtain ⟨y, e2, e3⟩ := KV.at' kv e1
    exact ⟨y, by rw [List.getElem?_map, e2]; rfl, e3⟩
  exact ⟨.ref G.objs.size, _, J.laid (t' := tk) (o := .tup (kvs.map (·.2))) (fun c o e => Heap.get?_push_of_some _ e) (Nat.le_refl _) ⟨by rw [List.length_map]; exact big, its.toList, rel, by rw [Array.toArray_toList]; exact IsTup.new _ _⟩, rfl, q _ (J.hok.fresh (Nat.le_refl _))⟩
end
end Nv
set_option Elab.async false
set_option linter.all false
set_option maxRecDepth 100000
set_option maxHeartbeats 16000000
/-! _ascending: a dict of numbers, its keys ascending. -/
namespace Y1
open PySem PySem.Spec PyProof.Rows L2 Nv

/-- the keys are ints, and ascend -/
def Srt (kvs : List (Key × V)) : Prop := ∃ ks : List Int, kvs.map (·.1) = ks.map Sum.inl ∧ ks.Pairwise (· < ·)
def valN (kvs : List (Key × V)) (k : Int) : V := (valV kvs (Sum.inl k)).getD .non
theorem kvs_eq : ∀ (kvs : List (Key × V)) (ks : List Int), kvs.map (·.1) = ks.map Sum.inl → ks.Nodup → kvs = ks.map fun k => ((Sum.inl k : Key), valN kvs k)
  | [], [], _, _ => rfl
  | [], _ :: _, e, _ => by simp at e
  | _ :: _, [], e, _ => by simp at e
  | p :: r, k :: ks, e, nd => by
    rw [List.map_cons, List.map_cons, List.cons.injEq] at e
    obtain ⟨e1, e2⟩ := e
    have nd1 := List.nodup_cons.mp nd
    have ih := kvs_eq r ks e2 nd1.2
    rw [List.map_cons]
    refine congr (congrArg _ ?_) ?_
    · unfold valN
      rw [valV_pos e1, ← e1]
      rfl
    · refine ih.trans (List.map_congr_left fun j hj => ?_)
      have ne : ¬ p.1 = Sum.inl j := fun z => by
        rw [e1] at z
        exact nd1.1 (by rw [Sum.inl.inj z]; exact hj)
      unfold valN
      rw [valV_neg ne]
theorem valV_keys {kvs : List (Key × V)} {ks : List Int} (e : kvs.map (·.1) = ks.map Sum.inl) {k : Int} (hk : k ∈ ks) : valV kvs (Sum.inl k) = some (valN kvs k) := by
  have : (valV kvs (Sum.inl k : Key)).isSome = true := by
    rw [← valV_any, List.any_eq_true]
    have : (Sum.inl k : Key) ∈ kvs.map (·.1) := by rw [e]; exact List.mem_map_of_mem hk
    obtain ⟨p, hp, e1⟩ := List.mem_map.mp this
    exact ⟨p, hp, decide_eq_true e1⟩
  obtain ⟨v, hv⟩ := Option.isSome_iff_exists.mp this
  unfold valN
  rw [hv]
  rfl
theorem strict_of {ys ks : List Int} (p : ys.Perm ks) (nd : ks.Nodup) (h : ys.Pairwise (· ≤ ·)) : ys.Pairwise (· < ·) := by
  have n : ys.Pairwise (· ≠ ·) := p.nodup_iff.mpr nd
  exact (h.and n).imp fun ⟨a, b⟩ => by omega
theorem dp_ints {K : PySem.W.Frag} {H : Hp} : ∀ ns : List Int, DpAll K H (ns.map V.int) (ns.map PyData.int)
  | [] => .nil
  | b :: r => .cons (.int b) (dp_ints r)
theorem lay_ints : ∀ ns : List Int, PyData.canLayAll0 (ns.map PyData.int) = true
  | [] => by simp [PyData.canLayAll0]
  | z :: zs => by simp [PyData.canLayAll0, PyData.canLay0, lay_ints zs]
theorem depth_ints : ∀ ns : List Int, PyData.depthAll (ns.map PyData.int) = 0
  | [] => by simp [PyData.depthAll]
  | z :: zs => by simp [PyData.depthAll, PyData.depth, depth_ints zs]
theorem shaped_ints (ns : List Int) : SeqAt.shaped (.list (ns.map PyData.int)) = true := by
  show (PyData.canLay0 (.list (ns.map PyData.int)) && decide (PyData.depth (.list (ns.map PyData.int)) ≤ 64)) = true
  rw [Bool.and_eq_true]
  exact ⟨by simp only [PyData.canLay0]; exact lay_ints ns, decide_eq_true (by simp [PyData.depth, depth_ints])⟩
theorem eqvs_ints : ∀ ns ms : List Int, PyData.eqvAll (ns.map PyData.int) (ms.map PyData.int) = decide (ns = ms)
  | [], [] => by simp [PyData.eqvAll]
  | [], _ :: _ => by simp [PyData.eqvAll]
  | _ :: _, [] => by simp [PyData.eqvAll]
  | n :: ns, m :: ms => by
    simp only [List.map_cons, PyData.eqvAll, PyData.eqv, eqvs_ints ns ms]
    by_cases h : n = m <;> simp [h]
theorem eqv_ints (ns ms : List Int) : PyData.eqv (.list (ns.map PyData.int)) (.list (ms.map PyData.int)) = decide (ns = ms) := by
  simp only [PyData.eqv]
  exact eqvs_ints ns ms
structure Tas (mg : Str → Option Value) : Prop where
  srt : mg "sorted" = none
  lst : mg "list" = none
def spAsc : Sp := fun vs H Q _ => ∃ (h : Addr) (kvs : List (Key × V)) (ks : List Int), vs = [.ref h] ∧ H h = some (.dK kvs) ∧ kvs.map (·.1) = ks.map Sum.inl ∧ ks.Nodup ∧ kvs.length ≤ 1000 ∧ (∀ h' kvs' H', Same H H' → H' h' = some (.dK kvs') → kvs'.Perm kvs → Srt kvs' → Q (.ref h') H')
section
variable {P : Program} {w : World} {K : PySem.W.Frag} {mg : Str → Option Value} {base : Heap}
theorem scAs : FnScope ["held", "numbers", "number"] ["held"] (defScope (top 28)) := ⟨rfl, rfl, rfl, by decide +kernel, rfl, by decide +kernel, by decide +kernel⟩
theorem ok_asc {f : Addr} {fd : FuncData} (F : Fun K "_ascending" "_ascending" (top 28) f fd) (T : Tas mg) : FnOk P w K mg base CX0 1 f fd ["held"] spAsc := by
  refine F.ok scAs (fun vs H Q E h => by obtain ⟨h, kvs, ks, rfl, _⟩ := h; rfl) (fun cdv A outer s H vs Q E hr h => ?_)
  obtain ⟨h, kvs, ks, rfl, hh, hks, nd, l1, q⟩ := h
  have hu : (A.deeper (envOfC "_ascending" (defScope (top 28)) s.heap.objs.size f cdv)).units + 64 < cLine := by
    have := hr.un
    omega
  refine ⟨_, (pss_cons (ps_set (i := 1) scAs.nd rfl (Or.inl rfl) (pe_callB (call_sortedDw rfl) (by rfl) T.srt (by decide +kernel) (pa_cons (pv 0) pa_nil)))
    (pss_one (ps_ret (pe_ifExp (pt_cmpR (op_eqD hu) (pv 1) (pe_callTy (call_listD rfl) (by rfl) T.lst (by decide +kernel) (pa_cons (pv 0) pa_nil)) (by rfl)) (pv 0)
      (pe_dc (own := [("number", 2)]) (g := gName 2) (tt := tYes) rfl scAs.nd (pi_list (pv 1)) (blkOk_by (N := ["held", "numbers", "number"]) (sc := defScope (top 28)) (by decide +kernel)) (fun _ _ _ _ _ => pg_name (i := 2) scAs.nd rfl (Or.inl rfl)) (fun _ _ _ _ _ => pts_nil) (fun _ _ _ _ _ => pv 2)
        (fun _ _ _ _ _ => pe_dget (Nat.lt_of_le_of_lt (Nat.add_le_add_left (Nat.le_of_ble_eq_true (show Nat.ble 1 64 = true from rfl)) _) hu) (pv 0) (pv 2) (by intro _ _; rfl))))))), ?_⟩
  refine ⟨_, rfl, h, kvs, ks, rfl, .inl hh, hks, fun ys p pm le np => ?_⟩
  have s1 : Same H (upd H p (.lst (ys.map V.int))) := fun b o e => stay e np
  have hp1 : upd H p (.lst (ys.map V.int)) p = some (.lst (ys.map V.int)) := upd_same
  have h1 := s1 _ _ hh
  generalize upd H p (.lst (ys.map V.int)) = H1 at s1 hp1 h1
  have st := strict_of pm nd le
  refine ⟨_, rfl, _, rfl, h, kvs, rfl, .inl h1, fun l nl => ?_⟩
  have s2 : Same H1 (upd H1 l (.lst (kvs.map fun kv => kV kv.1))) := fun b o e => stay e nl
  have hl2 : upd H1 l (.lst (kvs.map fun kv => kV kv.1)) l = some (.lst (ks.map V.int)) := by
    rw [upd_same]
    have : kvs.map (fun kv => kV kv.1) = (kvs.map (·.1)).map kV := by rw [List.map_map]; rfl
    rw [this, hks, List.map_map]
    rfl
  have hp2 := s2 _ _ hp1
  have h2 := s2 _ _ h1
  generalize upd H1 l (.lst (kvs.map fun kv => kV kv.1)) = H2 at s2 hl2 hp2 h2
  refine ⟨_, _, .lst (SqL.of hp2) (dp_ints ys), .lst (SqL.of hl2) (dp_ints ks), shaped_ints ys, shaped_ints ks, _, rfl, ?_⟩
  rw [eqv_ints]
  have s02 : Same H H2 := fun b o e => s2 b o (s1 b o e)
  cases e : decide (ys = ks) with
  | true =>
    have e := of_decide_eq_true e
    subst e
    exact ⟨_, rfl, q h kvs H2 s02 h2 (List.Perm.refl _) ⟨ys, hks, st⟩⟩
  | false =>
    refine ⟨_, rfl, p, rfl, ⟨_, SqL.of hp2⟩, fun D nD => ?_⟩
    have nDh : D ≠ h := fun e => by rw [e, h2] at nD; cases nD
    have nDp : D ≠ p := fun e => by rw [e, hp2] at nD; cases nD
    let I : Nat → Hp → Prop := fun i H' => (∀ b o, H2 b = some o → H' b = some o) ∧ H' D = some (.dK ((ys.take i).map fun k => ((Sum.inl k : Key), valN kvs k)))
    have ykeys : ∀ k ∈ ys, k ∈ ks := fun k hk => pm.mem_iff.mp hk
    refine ⟨fun i m H' => m = ys.length - i ∧ i ≤ ys.length ∧ I i H', ⟨_, rfl, Nat.zero_le _, fun b o e => stay e nD, upd_same⟩, ?_⟩
    rintro i m H' ⟨rfl, hi, sk, hD⟩
    have hp' := sk _ _ hp2
    by_cases hlt : i < ys.length
    · have hx : ys[i]? = some ys[i] := List.getElem?_eq_getElem hlt
      refine .inr ⟨⟨ys.map V.int, .int ys[i], SqL.of hp', by rw [List.getElem?_map, hx]; rfl⟩, fun H'' => I (i + 1) H'', fun H'' z => ⟨_, by omega, rfl, hlt, z⟩, fun x H'' y => ?_⟩
      obtain ⟨rfl, y⟩ := y
      have ex := y _ (SqL.of hp')
      rw [List.getElem?_map, hx] at ex
      cases (Option.some.inj ex)
      refine ⟨rfl, _, rfl, _, rfl, _, rfl, h, valN kvs ys[i], rfl, ?_, ?_⟩
      · have := DGet.k (k := Sum.inl ys[i]) (sk _ _ h2)
        rw [valV_keys hks (ykeys _ (List.getElem_mem hlt))] at this
        exact this
      · have tl : (ys.take i).length ≤ ys.length := by rw [List.length_take]; omega
        have hyl : ys.length = kvs.length := by
          rw [pm.length_eq]
          have e := congrArg List.length hks
          rw [List.length_map, List.length_map] at e
          exact e.symm
        refine ⟨_, Sum.inl ys[i], rfl, hD, ?_, fun b o e => ?_, ?_⟩
        · rw [List.length_map]
          exact Nat.lt_of_le_of_lt (show (ys.take i).length ≤ 1001 by omega) (by decide)
        · have nb : b ≠ D := fun z => by rw [z, nD] at e; cases e
          rw [upd_ne nb]
          exact sk b o e
        · rw [upd_same]
          have nodup : ys.Nodup := pm.nodup_iff.mpr nd
          rw [putK_new, List.take_succ_eq_append_getElem hlt, List.map_append]
          · rfl
          · cases ev : valV ((ys.take i).map fun k => ((Sum.inl k : Key), valN kvs k)) (Sum.inl ys[i]) with
            | none => rfl
            | some v =>
              have mm := valV_in ev
              rw [List.map_map] at mm
              obtain ⟨k, hk, ek⟩ := List.mem_map.mp mm
              have ek : k = ys[i] := Sum.inl.inj ek
              obtain ⟨j, hj, ej⟩ := List.mem_iff_getElem.mp hk
              rw [List.getElem_take] at ej
              have hj2 : j < i := by
                rw [List.length_take] at hj
                omega
              have := List.pairwise_iff_getElem.mp st j i (by omega) hlt hj2
              omega
    · have ei : i = ys.length := by omega
      subst ei
      refine .inl ⟨⟨_, SqL.of hp', by rw [List.length_map]; exact Nat.le_refl _⟩, q D _ H' (fun b o e => sk b o (s02 b o e)) hD ?_ ⟨ys, ?_, st⟩⟩
      · rw [List.take_length]
        refine (pm.map _).trans ?_
        rw [← kvs_eq kvs ks hks nd]
      · rw [List.take_length, List.map_map]
        rfl
end
end Y1
set_option Elab.async false
set_option linter.all false
set_option maxRecDepth 100000
set_option maxHeartbeats 16000000
/-! _checked: a list or tuple of edges, its edges by number. -/
namespace Y1
open PySem PySem.Spec PyProof.Rows L2 Nv

theorem ifT {b : Bool} {p q : Prop} (h : b = true) (x : p) : if b = true then p else q := by rw [if_pos h]; exact x
theorem ifF {b : Bool} {p q : Prop} (h : b = false) (x : q) : if b = true then p else q := by rw [if_neg (by rw [h]; exact Bool.false_ne_true)]; exact x
/-- a loop over what gives the items xs -/
theorem for_it {J : It} {xs : List V} {g : TG} {tb : TS} {D : Ends} {σ : L2.St} {H : Hp} (Pv : Nat → L2.St → Hp → Prop) (h0 : Pv 0 σ H)
    (hg : ∀ i σ H, i < xs.length → Pv i σ H → J.go i H ∧ ∀ x H', J.yld i H x H' → H' = H ∧ xs[i]? = some x) (hp : ∀ σ H, Pv xs.length σ H → J.stop xs.length H)
    (hs : ∀ i x σ H, xs[i]? = some x → Pv i σ H → g x σ H fun σ2 H2 => tb { D with nx := Pv (i + 1), ct := Pv (i + 1), bk := D.nx } σ2 H2) (hd : ∀ σ H, Pv xs.length σ H → D.nx σ H) :
    ∃ W : Nat → Nat → L2.St → Hp → Prop, (∃ m, W 0 m σ H) ∧ ∀ i m σ H, W i m σ H →
      (J.stop i H ∧ D.nx σ H) ∨ (J.go i H ∧ ∃ N : L2.St → Hp → Prop, (∀ σ' H', N σ' H' → ∃ m', m' < m ∧ W (i + 1) m' σ' H') ∧ ∀ x H', J.yld i H x H' → g x σ H' fun σ2 H2 => tb { D with nx := N, ct := N, bk := D.nx } σ2 H2) := by
  refine ⟨fun i m σ H => m = xs.length - i ∧ i ≤ xs.length ∧ Pv i σ H, ⟨xs.length, by simp, Nat.zero_le _, h0⟩, ?_⟩
  rintro i m σ H ⟨rfl, hi, p⟩
  by_cases hlt : i < xs.length
  · obtain ⟨h1, h2⟩ := hg i σ H hlt p
    refine .inr ⟨h1, Pv (i + 1), fun σ' H' p' => ⟨xs.length - (i + 1), by omega, rfl, hlt, p'⟩, fun x H' y => ?_⟩
    obtain ⟨rfl, hx⟩ := h2 x H' y
    exact hs i x σ _ hx p
  · have e : i = xs.length := by omega
    subst e
    exact .inl ⟨hp σ H p, hd σ H p⟩
/-- what is held, by number, in the order of the items -/
def heldL : List V → List PyData → List (Key × V)
  | xs, ds => (xs.zip ds).foldl (fun m p => putK m (Sum.inl (numE p.2)) p.1) []
def heldI (xs : List V) (ds : List PyData) (i : Nat) : List (Key × V) := heldL (xs.take i) (ds.take i)
theorem heldI_zero {xs : List V} {ds : List PyData} : heldI xs ds 0 = [] := rfl
theorem heldI_succ {xs : List V} {ds : List PyData} {i : Nat} {x : V} {d : PyData} (hx : xs[i]? = some x) (hd : ds[i]? = some d) : heldI xs ds (i + 1) = putK (heldI xs ds i) (Sum.inl (numE d)) x := by
  unfold heldI heldL
  rw [List.take_add_one, List.take_add_one, hx, hd]
  have hl : (xs.take i).length = (ds.take i).length := by
    have h1 := (List.getElem?_eq_some_iff.mp hx).1
    have h2 := (List.getElem?_eq_some_iff.mp hd).1
    rw [List.length_take, List.length_take]
    omega
  show (((xs.take i ++ [x]).zip (ds.take i ++ [d])).foldl _ []) = _
  rw [List.zip_append hl, List.foldl_append]
  rfl
theorem heldI_all {xs : List V} {ds : List PyData} (h : xs.length = ds.length) : heldI xs ds xs.length = heldL xs ds := by
  unfold heldI
  rw [List.take_length, h, List.take_length]
/-- the keys are unlike ints -/
def IntKeys (kvs : List (Key × V)) : Prop := ∃ ks : List Int, kvs.map (·.1) = ks.map Sum.inl ∧ ks.Nodup
theorem putK_keys {kvs : List (Key × V)} {k : Key} {v w : V} (h : valV kvs k = some w) : (putK kvs k v).map (·.1) = kvs.map (·.1) := by
  have e : (kvs.any fun kv => decide (kv.1 = k)) = true := by rw [valV_any, h]; rfl
  unfold putK
  rw [if_pos e, List.map_map]
  refine List.map_congr_left fun p _ => ?_
  show (if p.1 = k then (p.1, v) else p).1 = p.1
  by_cases z : p.1 = k
  · rw [if_pos z]
  · rw [if_neg z]
theorem putK_intKeys {kvs : List (Key × V)} {n : Int} {v : V} (h : IntKeys kvs) : IntKeys (putK kvs (Sum.inl n) v) := by
  obtain ⟨ks, e, nd⟩ := h
  cases hv : valV kvs (Sum.inl n) with
  | some w => exact ⟨ks, by rw [putK_keys hv]; exact e, nd⟩
  | none =>
    refine ⟨ks ++ [n], by rw [putK_new v hv, List.map_append, List.map_append, e]; rfl, ?_⟩
    rw [List.nodup_append]
    refine ⟨nd, by simp, ?_⟩
    rintro a ha b hb rfl
    have eb : a = n := by simpa using hb
    subst eb
    have := valV_not hv
    rw [e] at this
    exact this (List.mem_map_of_mem ha)
theorem heldI_keys {xs : List V} {ds : List PyData} (h : xs.length = ds.length) : ∀ i, i ≤ xs.length → IntKeys (heldI xs ds i)
  | 0, _ => ⟨[], rfl, List.nodup_nil⟩
  | i + 1, hi => by
    rw [heldI_succ (List.getElem?_eq_getElem (show i < xs.length by omega)) (List.getElem?_eq_getElem (show i < ds.length by omega))]
    exact putK_intKeys (heldI_keys h i (by omega))
theorem putK_le (kvs : List (Key × V)) (k : Key) (v : V) : (putK kvs k v).length ≤ kvs.length + 1 := by
  unfold putK
  by_cases h : (kvs.any fun kv => decide (kv.1 = k)) = true
  · rw [if_pos h, List.length_map]
    exact Nat.le_succ _
  · rw [if_neg h, List.length_append]
    exact Nat.le_refl _
theorem heldI_len {xs : List V} {ds : List PyData} (h : xs.length = ds.length) : ∀ i, i ≤ xs.length → (heldI xs ds i).length ≤ i
  | 0, _ => Nat.le_refl _
  | i + 1, hi => by
    rw [heldI_succ (List.getElem?_eq_getElem (show i < xs.length by omega)) (List.getElem?_eq_getElem (show i < ds.length by omega))]
    exact Nat.le_trans (putK_le _ _ _) (by have := heldI_len h i (by omega); omega)
/-- kvs is what _checked returns -/
def Good (xs : List V) (ds : List PyData) (kvs : List (Key × V)) : Prop := kvs.Perm (heldL xs ds) ∧ Srt kvs
/-- the class of InvalidEdges -/
structure Tie (K : PySem.W.Frag) (mg : Str → Option Value) (C fI : Addr) : Prop where
  xc : Xc K C fI
  gl : mg "InvalidEdges" = some (.ref C)
/-- a list or tuple of data -/
theorem TyX.more {K : PySem.W.Frag} {H H' : Hp} {v : V} {t : Value} (h : TyX K H v t) (k : Same H H') : TyX K H' v t := by
  cases h with
  | base b =>
    cases b with
    | non => exact .base .non
    | bl x => exact .base (.bl x)
    | int i => exact .base (.int i)
    | str x => exact .base (.str x)
    | flt x => exact .base (.flt x)
    | lst e => exact .base (.lst (k _ _ e))
    | frz e => exact .base (.frz (k _ _ e))
    | tup e => exact .base (.tup (k _ _ e))
    | dK e => exact .base (.dK (k _ _ e))
    | dT e => exact .base (.dT (k _ _ e))
    | ins e cl ha hn htk hm => exact .base (.ins (k _ _ e) cl ha hn htk hm)
  | byt b => exact .byt b
  | set e => exact .set (k _ _ e)
  | kList e c => exact .kList e c
  | kTuple e c => exact .kTuple e c
  | kDict e c => exact .kDict e c
  | fTuple e => exact .fTuple (k _ _ e)
  | fDict e => exact .fDict (k _ _ e)
structure SqD (H : Hp) (a : Addr) (xs : List V) (ds : List PyData) : Prop where
  at_ : H a = some (.lst xs) ∨ H a = some (.tup xs)
  dv : DVs H xs ds
  fl : ∀ d ∈ ds, flatP d
  len : ds.length ≤ 1000
def seqs : List Value := [.type "list", .type "tuple"]
def spChk (K : PySem.W.Frag) (C : Addr) : Sp := fun vs H Q E => ∃ v t b, vs = [v] ∧ TyX K H v t ∧ PySem.W.kitAny K t seqs = some b ∧
  (b = false → ∀ dx H', Same H H' → XD H' dx v → E (.ref C) (some dx) H') ∧
  (b = true → ∃ a xs ds, v = .ref a ∧ SqD H a xs ds ∧ ((∃ d ∈ ds, edgeB d = false) → ∀ dx H', Same H H' → XD H' dx v → E (.ref C) (some dx) H') ∧
    ((∀ d ∈ ds, edgeB d = true) → ∀ h kvs H', Same H H' → H' h = some (.dK kvs) → Good xs ds kvs → Q (.ref h) H'))
section
variable {P : Program} {w : World} {K : PySem.W.Frag} {mg : Str → Option Value} {base : Heap} {C fI : Addr} {fdI : FuncData}
theorem scCk : FnScope ["edges", "held", "edge", "number"] ["edges"] (defScope (top 27)) := ⟨rfl, rfl, rfl, by decide +kernel, rfl, by decide +kernel, by decide +kernel⟩
theorem okN {x qual : Str} {st : Stmt} {f : Addr} {fd : FuncData} {N ps : List Str} {k : Nat} {sp : Sp} (F : Fun K x qual st f fd) (S : FnScope N ps (defScope st)) (len : ∀ vs H Q E, sp vs H Q E → vs.length = ps.length)
    (hbody : ∀ (cdv : Value) (A : Around) (outer : List Env) (s : Shared) (H : Hp) (vs : List V) (Q : VK) (E : XK), Room k (A.deeper (envOfC qual (defScope st) s.heap.objs.size f cdv)) → sp vs H Q E →
      L2N.Takes (cxOf (L2N.CX P w) P w K mg base N qual (defScope st) f cdv A outer s H E) (fun cls d _ H => E cls d H) →
      ∃ t, PSs (cxOf (L2N.CX P w) P w K mg base N qual (defScope st) f cdv A outer s H E) (defBody st) t ∧ t { nx := fun _ H' => Q .non H', rt := Q } (start N vs) H) : FnOk P w K mg base (L2N.CX P w) (k + 1) f fd ps sp := by
  obtain ⟨oc, od, kV, doc, pm, an, cdv, ct, osl, rfl, lk, hcd⟩ := F.ex
  exact fn_of lk hcd S len fun A outer s H vs Q E hr hsp => hbody cdv A outer s H vs Q E hr hsp (L2N.takes_of rfl rfl rfl rfl)
theorem scIni : FnScope ["self", "value"] ["self", "value"] (defScope (inClass (top 2) 0)) := ⟨rfl, rfl, rfl, by decide +kernel, rfl, by decide +kernel, by decide +kernel⟩
theorem ok_ini {f : Addr} {fd : FuncData} (F : Fun K "__init__" "NevercrossedError.__init__" (inClass (top 2) 0) f fd) : FnOk P w K mg base CX0 1 f fd ["self", "value"] (spIni K) := by
  refine F.ok scIni (fun vs H Q E h => ?_) (fun cdv A outer s H vs Q E hr h => ?_)
  · obtain ⟨a, C, v, rfl, _⟩ := h
    rfl
  · obtain ⟨a, C, v, rfl, T, nv, nf, nc, ha, q⟩ := h
    refine ⟨_, pss_cons (ps_ost (pv 0) (pv 1)) (pss_one (ps_ost (pv 0) (pe_cname (pe_xcls (pv 0))))), _, rfl, _, rfl, a, C, rfl, T, nv, .inl ⟨ha, fun dx nd ne => ?_⟩⟩
    refine ⟨_, rfl, a, C, dx, _, rfl, nc, upd_same, (by rw [upd_ne ne]; exact upd_same), C, rfl, nc, fun n => ⟨_, rfl, a, C, rfl, T, nf, .inr ⟨dx, _, upd_same, (by rw [upd_ne ne]; exact upd_same), (by show 1 ≤ 900; decide), ?_⟩⟩⟩
    have z := q dx n nd ne
    rw [← ini_heap ne] at z
    exact z
theorem ok_chk {f fE fA : Addr} {fd fdE fdA : FuncData} (F : Fun K "_checked" "_checked" (top 27) f fd) (T : Ta mg) (TL : mg "list" = none) (X : Tie K mg C fI) (GI : FnOk P w K mg base CX0 1 fI fdI ["self", "value"] (spIni K)) (bI : Binds K fdI ["self", "value"] [])
    (GE : FnOk P w K mg base CX0 3 fE fdE ["value"] spNum) (AE : At K mg "edge_number" fE fdE ["value"]) (GA : FnOk P w K mg base CX0 1 fA fdA ["held"] spAsc) (AA : At K mg "_ascending" fA fdA ["held"]) :
    FnOk P w K mg base (L2N.CX P w) 4 f fd ["edges"] (spChk K C) := by
  refine okN F scCk (fun vs H Q E h => by obtain ⟨v, t, b, rfl, _⟩ := h; rfl) (fun cdv A outer s H vs Q E hr h tk => ?_)
  obtain ⟨v, t, b, rfl, ty, kt, qf, qt⟩ := h
  have hu1 : (A.deeper (envOfC "_checked" (defScope (top 27)) s.heap.objs.size f cdv)).units + 1 < cLine := by
    have := hr.un
    omega
  refine ⟨_, (pss_cons (ps_if (pt_not (pt_val (pe_callB call_isiT (by rfl) T.isi (by decide +kernel) (pa_cons (pv 0) (pa_cons (pe_tup (pa_cons (pe_bltn (v := .ty "list") (u := .type "list") (by rfl) TL (by decide +kernel) rfl) (pa_cons (pe_bltn (v := .ty "tuple") (u := .type "tuple") (by rfl) T.tup (by decide +kernel) rfl) pa_nil))) pa_nil))))) (pss_one (L2N.ps_raise rfl tk (pmk_mkx X.xc.mx GI (hr.mono (by decide)) bI rfl X.gl (pv 0)))) pss_nil)
    (pss_cons (ps_set (i := 1) scCk.nd rfl (Or.inl rfl) pe_dnewK)
    (pss_cons (ps_for (passes_of rfl) rfl (pi_or (pi_list (pv 0)) (pi_tup (pv 0))) (pg_name (i := 2) scCk.nd rfl (Or.inl rfl))
      (pss_cons (ps_set (i := 3) scCk.nd rfl (Or.inl rfl) (pe_call GE hr rfl AE.g AE.k AE.b .nil pass0 (pa_cons (pv 2) pa_nil)))
      (pss_cons (ps_if (pt_cmpR op_isN (pv 3) pe_non (nomark _)) (pss_one (L2N.ps_raise rfl tk (pmk_mkx X.xc.mx GI (hr.mono (by decide)) bI rfl X.gl (pv 0)))) pss_nil)
      (pss_one (ps_dput hu1 (pv 1) (pv 3) (pv 2) (by rfl))))))
    (pss_one (ps_ret (pe_call GA (hr.mono (by decide)) rfl AA.g AA.k AA.b .nil pass0 (pa_cons (pv 1) pa_nil))))))), ?_⟩
  have bad : ∀ {H1 : Hp}, Same H H1 → (∀ dx H', Same H H' → XD H' dx v → E (.ref C) (some dx) H') → ∀ dx n, H1 dx = none → E (.ref C) (some dx) (upd H1 dx (.xd (xf n v))) := fun s1 q dx n nd => q dx _ (fun b o e => stay (s1 b o e) nd) XD.of
  refine ⟨_, rfl, (by show 2 ≤ sizeLine; decide), fun tp ntp => ⟨v, tp, _, t, seqs, b, rfl, upd_same, .cons (.ty _) (.cons (.ty _) .nil), TyX.more ty fun b o e => stay e ntp, kt, _, rfl, ?_⟩⟩
  have s1 : Same H (upd H tp (.tup [.ty "list", .ty "tuple"])) := fun b o e => stay e ntp
  generalize upd H tp (.tup [.ty "list", .ty "tuple"]) = H1 at s1
  cases b with
  | false => exact ⟨_, rfl, bad s1 (qf rfl)⟩
  | true =>
    obtain ⟨a, xs, ds, rfl, sq, qb, qg⟩ := qt rfl
    have ln := sq.dv.length
    refine fun D nD => ?_
    have s2 : Same H (upd H1 D (.dK [])) := fun b o e => stay (s1 b o e) nD
    have nDH : H D = none := by
      cases e : H D with
      | none => rfl
      | some o =>
        rw [s1 _ _ e] at nD
        cases nD
    let Pv : Nat → L2.St → Hp → Prop := fun i σ H' => ∃ o2 o3 : Option V, σ = [some (.ref a), some (.ref D), o2, o3] ∧ Same H H' ∧ H' D = some (.dK (heldI xs ds i)) ∧ ∀ j d, j < i → ds[j]? = some d → edgeB d = true
    have p0 : Pv 0 [some (.ref a), some (.ref D), none, none] (upd H1 D (.dK [])) := ⟨none, none, rfl, s2, upd_same, fun j d hj => absurd hj (Nat.not_lt_zero _)⟩
    have fin : ∀ σ H', Pv xs.length σ H' → ∃ v, σ[1]? = some (some v) ∧ spAsc [v] H' Q E0 := by
      rintro σ H' ⟨o2, o3, rfl, s3, hD, ed⟩
      obtain ⟨ks, e1, nd⟩ := heldI_keys ln xs.length (Nat.le_refl _)
      refine ⟨_, rfl, D, _, ks, rfl, hD, e1, nd, Nat.le_trans (heldI_len ln _ (Nat.le_refl _)) (by rw [ln]; exact sq.len), fun h' kvs' H'' s4 hk pm st => ?_⟩
      rw [heldI_all ln] at pm
      refine qg (fun d hd => ?_) h' kvs' H'' (fun b o e => s4 b o (s3 b o e)) hk ⟨pm, st⟩
      obtain ⟨j, hj⟩ := List.getElem?_of_mem hd
      exact ed j d (by rw [ln]; exact (List.getElem?_eq_some_iff.mp hj).1) hj
    rcases sq.at_ with ha | ha
    · refine .inl ⟨_, rfl, a, rfl, ⟨_, SqL.of (s2 _ _ ha)⟩, for_it (xs := xs) Pv p0 ?_ ?_ ?_ ?_⟩
      · rintro i σ H' hi ⟨o2, o3, rfl, s3, hD, ed⟩
        refine ⟨⟨xs, xs[i], SqL.of (s3 _ _ ha), List.getElem?_eq_getElem hi⟩, fun x H'' y => ⟨y.1, y.2 _ (SqL.of (s3 _ _ ha))⟩⟩
      · rintro σ H' ⟨o2, o3, rfl, s3, hD, ed⟩
        exact ⟨xs, SqL.of (s3 _ _ ha), Nat.le_refl _⟩
      · rintro i x σ H' hx ⟨o2, o3, rfl, s3, hD, ed⟩
        obtain ⟨d, hd, dv⟩ := sq.dv.at i x hx
        refine ⟨_, rfl, x, d, rfl, dv.more s3, sq.fl d (List.mem_of_getElem? hd), fun hf H'' s4 => ?_, fun ht H'' s4 => ?_⟩
        · refine ⟨_, rfl, rfl, _, rfl, ifT (decide_eq_true rfl) ?_⟩
          exact ⟨_, rfl, bad (fun b o e => s4 b o (s3 b o e)) (qb ⟨d, List.mem_of_getElem? hd, hf⟩)⟩
        · refine ⟨_, rfl, rfl, _, rfl, ifF (decide_eq_false fun e => nomatch e) ?_⟩
          have li := heldI_len ln i (Nat.le_of_lt (List.getElem?_eq_some_iff.mp hx).1)
          have lx := (List.getElem?_eq_some_iff.mp hx).1
          have l1 := sq.len
          refine ⟨_, rfl, _, rfl, _, rfl, D, _, rfl, DPut.k (k := Sum.inl (numE d)) (s4 _ _ hD) (Nat.lt_of_le_of_lt (show (heldI xs ds i).length ≤ 1001 by omega) (by decide)), ?_⟩
          refine ⟨some x, some (.int (numE d)), rfl, fun b o e => ?_, ?_, fun j d' hj hj' => ?_⟩
          · have nb : b ≠ D := fun z => by rw [z, nDH] at e; cases e
            rw [upd_ne nb]
            exact s4 _ _ (s3 _ _ e)
          · rw [upd_same, heldI_succ hx hd]
          · by_cases ej : j = i
            · subst ej
              rw [hd] at hj'
              cases hj'
              exact ht
            · exact ed j d' (by omega) hj'
      · exact fun σ H' p => fin σ H' p
    · refine .inr ⟨_, rfl, a, rfl, ⟨_, SqT.of (s2 _ _ ha)⟩, for_it (xs := xs) Pv p0 ?_ ?_ ?_ ?_⟩
      · rintro i σ H' hi ⟨o2, o3, rfl, s3, hD, ed⟩
        refine ⟨⟨xs, xs[i], SqT.of (s3 _ _ ha), List.getElem?_eq_getElem hi⟩, fun x H'' y => ⟨y.1, y.2 _ (SqT.of (s3 _ _ ha))⟩⟩
      · rintro σ H' ⟨o2, o3, rfl, s3, hD, ed⟩
        exact ⟨xs, SqT.of (s3 _ _ ha), Nat.le_refl _⟩
      · rintro i x σ H' hx ⟨o2, o3, rfl, s3, hD, ed⟩
        obtain ⟨d, hd, dv⟩ := sq.dv.at i x hx
        refine ⟨_, rfl, x, d, rfl, dv.more s3, sq.fl d (List.mem_of_getElem? hd), fun hf H'' s4 => ?_, fun ht H'' s4 => ?_⟩
        · refine ⟨_, rfl, rfl, _, rfl, ifT (decide_eq_true rfl) ?_⟩
          exact ⟨_, rfl, bad (fun b o e => s4 b o (s3 b o e)) (qb ⟨d, List.mem_of_getElem? hd, hf⟩)⟩
        · refine ⟨_, rfl, rfl, _, rfl, ifF (decide_eq_false fun e => nomatch e) ?_⟩
          have li := heldI_len ln i (Nat.le_of_lt (List.getElem?_eq_some_iff.mp hx).1)
          have lx := (List.getElem?_eq_some_iff.mp hx).1
          have l1 := sq.len
          refine ⟨_, rfl, _, rfl, _, rfl, D, _, rfl, DPut.k (k := Sum.inl (numE d)) (s4 _ _ hD) (Nat.lt_of_le_of_lt (show (heldI xs ds i).length ≤ 1001 by omega) (by decide)), ?_⟩
          refine ⟨some x, some (.int (numE d)), rfl, fun b o e => ?_, ?_, fun j d' hj hj' => ?_⟩
          · have nb : b ≠ D := fun z => by rw [z, nDH] at e; cases e
            rw [upd_ne nb]
            exact s4 _ _ (s3 _ _ e)
          · rw [upd_same, heldI_succ hx hd]
          · by_cases ej : j = i
            · subst ej
              rw [hd] at hj'
              cases hj'
              exact ht
            · exact ed j d' (by omega) hj'
      · exact fun σ H' p => fin σ H' p
end
end Y1
set_option Elab.async false
set_option linter.all false
set_option maxRecDepth 100000
set_option maxHeartbeats 16000000
/-! Figure's __init__, and Figure(..) where it may raise. -/
namespace Nv
open PySem PySem.Spec PyProof.Rows L2
section
variable {X : Cx} {CX : CXT} {k : Nat} {C f : Addr} {fd : FuncData} {ps : List Str} {sp : Sp} {x : Str} {p pos : Pos} {e : Expr} {es : List Expr} {t : TA}
/-- C(e, ..), C's __init__ may raise; what is wanted of it may hang on the names -/
def tMakeS (C : Addr) (sp : Sp) (E : L2.St → XK) (t : TA) : TE := fun σ H Q => t σ H fun vs H1 => ∀ y dx, H1 y = none → H1 dx = none → dx ≠ y → sp (.ref y :: vs) (upd (upd H1 dx (.own y)) y (.ins C dx [])) (fun v H2 => v = .non ∧ Q (.ref y) H2) (E σ)
theorem pe_makeS {E : L2.St → XK} (M : Mk X.K C f) (F : FnOk X.prog X.w X.K X.mg X.base CX k f fd ps sp) (hr : Room (k + 1) X.A) (hg : Gl X x) (hm : X.mg x = some (.ref C)) (hb : Binds X.K fd ps []) (hx : ∀ σ, PassesAt CX X σ (E σ))
    (ha : PA X (e :: es) t) (hdb : (x == ("__debug__" : Str)) = false := by decide) (he : starEach (e :: es) X.env = (false, eval e X.env) :: starEach es X.env := by rfl) (hpl : (backTo pos (starEach es X.env)).any (·.1) = false := by rfl) :
    PE X (.Call (.Name x p) (e :: es) [] pos) (tMakeS C sp E t) := by
  constructor
  intro pins s0 σ H0 Q I0 h0
  refine wpAny_Call_Name_kw (ld_glob I0 hg hm ?_ hdb)
  refine PySem.W.callWith_K (h₀ := X.base) I0.ok.mod.kin M.kp (thn (ha.run pos pins s0 σ H0 _ I0 h0) ?_) he hpl
  rintro us s ⟨vs, H, I, r, q⟩
  refine ⟨I.kIn, ?_⟩
  obtain ⟨y, hy⟩ : ∃ y, y = s.heap.objs.size + 1 := ⟨_, rfl⟩
  have z := q y s.heap.objs.size (I.hok.fresh (by rw [hy]; exact Nat.le_succ _)) (I.hok.fresh (Nat.le_refl _)) (by rw [hy]; exact Nat.ne_of_lt (Nat.lt_succ_self _))
  have J := Inv.made (C := C) I
  rw [← hy] at J
  have rr : Vals (V.ref y :: vs) (Value.ref y :: us) := .cons rfl r
  have ln : ((Value.ref y :: us) ++ []).length = ps.length := by
    rw [List.append_nil, ← rr.length]
    exact F.len _ _ _ _ z
  have bd := hb _ (Value.ref y :: us) J.kIn ln
  rw [List.append_nil] at bd
  refine wpAny_call (make_map (f := f) I.kIn M.makes M.init (beq_iff_eq.mp M.fn) ?_)
  rw [← hy]
  refine codeAny_mono (F.run _ X.stack _ _ ⟨Value.ref y :: us, []⟩ _ _ _ (E σ) (hr.make C us []) (J.env0.make C us []) bd rr z) ?_
  rintro (er | (_ | _ | _ | u)) s' g
  · exact hx σ pins _ _ er s' J g
  · exact g.elim
  · exact g.elim
  · exact g.elim
  · obtain ⟨v, H', I3, rv, ev, q3⟩ := J.after g
    subst ev
    exact ⟨rv, ⟨V.ref y, H', I3, rfl, q3⟩⟩
end
end Nv
namespace Y1
open PySem PySem.Spec PyProof.Rows L2 Nv
/-- the names of the types of data -/
def tyNs : List String := ["NoneType", "bool", "int", "str", "list", "tuple", "dict"]
/-- what the module says of Figure and Held -/
structure Kf (K : PySem.W.Frag) (mg : Str → Option Value) (CF CH : Addr) : Prop where
  gF : mg "Figure" = some (.ref CF)
  gH : mg "Held" = some (.ref CH)
  most : ∃ t, mg "MOST_EDGES" = some (.int 400 t)
  cls : Cls K CF
  clsH : Cls K CH
  nE : NoAttr K CF "edges"
  nH : NoAttr K CF "_held"
  nL : NoAttr K CF "_letters"
  nF : NoAttr K CF "_forks"
  nG : NoAttr K CF "_ground"
  nB : NoAttr K CH "by_number"
  heldT : ∀ n ∈ tyNs, PySem.W.kitOne K (.type n) (.ref CH) = some false
  heldF : PySem.W.kitOne K (.ref CF) (.ref CH) = some false
  figT : ∀ n ∈ tyNs, PySem.W.kitOne K (.type n) (.ref CF) = some false
  figF : PySem.W.kitOne K (.ref CF) (.ref CF) = some true
  seqF : PySem.W.kitAny K (.ref CF) seqs = some false
  cc : PySem.W.findIn K (.ref CF) "__class__" = some (some (.builtin "object.__class__"))
  gs : PySem.W.specialIn K (.builtin "object.__class__") "__get__" = some (some (.builtin "getset_descriptor.__get__"))
  tk : PySem.W.takesIn K (.builtin "object.__class__") = some true
  ob : PySem.W.mroIn K CF (.type "object") = some true
/-- a figure's fields, its edges at tt, its dict at hh -/
def figFs (tt hh : Addr) : List (Str × V) := [("edges", .ref tt), ("_held", .ref hh), ("_letters", .non), ("_forks", .non), ("_ground", .non)]
/-- a figure with these edges by number -/
def FigAt (CF : Addr) (H : Hp) (x : Addr) (kvs : List (Key × V)) : Prop := ∃ dx tt hh, H x = some (.ins CF dx (figFs tt hh)) ∧ H tt = some (.tup (kvs.map (·.2))) ∧ H hh = some (.dK kvs)
structure Ttl (K : PySem.W.Frag) (mg : Str → Option Value) (C fI : Addr) : Prop where
  xc : Xc K C fI
  gl : mg "TooLarge" = some (.ref C)
def spFig (K : PySem.W.Frag) (CF CH C CT : Addr) : Sp := fun vs H Q E => ∃ x dx v t b, vs = [.ref x, v] ∧ H x = some (.ins CF dx []) ∧ TyX K H v t ∧ PySem.W.kitOne K t (.ref CH) = some false ∧ PySem.W.kitAny K t seqs = some b ∧
  (b = false → ∀ dx H', Same H H' → XD H' dx v → E (.ref C) (some dx) H') ∧
  (b = true → ∃ a xs ds, v = .ref a ∧ SqD H a xs ds ∧ ((∃ d ∈ ds, edgeB d = false) → ∀ dx H', Same H H' → XD H' dx v → E (.ref C) (some dx) H') ∧
    ((∀ d ∈ ds, edgeB d = true) → ∀ kvs, Good xs ds kvs →
      (400 < kvs.length → ∀ dx H', Same H H' → XD H' dx (.int kvs.length) → E (.ref CT) (some dx) H') ∧
      (kvs.length ≤ 400 → ∀ H', But x H H' → FigAt CF H' x kvs → Q .non H')))
section
variable {P : Program} {w : World} {K : PySem.W.Frag} {mg : Str → Option Value} {base : Heap} {C CT CF CH fI : Addr} {fdI : FuncData}
theorem scFi : FnScope ["self", "edges", "held"] ["self", "edges"] (defScope (inClass (top 24) 0)) := ⟨rfl, rfl, rfl, by decide +kernel, rfl, by decide +kernel, by decide +kernel⟩
theorem okND {x qual : Str} {st : Stmt} {dvs : List V} {kws : List (Str × V)} {f : Addr} {fd : FuncData} {N ps : List Str} {k : Nat} {sp : Sp} (F : FunD K x qual (defArgs st) (defBody st) (defScope st) dvs kws f fd) (S : FnScope N ps (defScope st)) (len : ∀ vs H Q E, sp vs H Q E → vs.length = ps.length)
    (hbody : ∀ (cdv : Value) (A : Around) (outer : List Env) (s : Shared) (H : Hp) (vs : List V) (Q : VK) (E : XK), Room k (A.deeper (envOfC qual (defScope st) s.heap.objs.size f cdv)) → sp vs H Q E →
      L2N.Takes (cxOf (L2N.CX P w) P w K mg base N qual (defScope st) f cdv A outer s H E) (fun cls d _ H => E cls d H) →
      ∃ t, PSs (cxOf (L2N.CX P w) P w K mg base N qual (defScope st) f cdv A outer s H E) (defBody st) t ∧ t { nx := fun _ H' => Q .non H', rt := Q } (start N vs) H) : FnOk P w K mg base (L2N.CX P w) (k + 1) f fd ps sp := by
  obtain ⟨oc, od, dV, kV, doc, pm, an, cdv, ct, osl, rfl, lk, hcd, _, _⟩ := F.ex
  exact fn_of lk hcd S len fun A outer s H vs Q E hr hsp => hbody cdv A outer s H vs Q E hr hsp (L2N.takes_of rfl rfl rfl rfl)
theorem bind_fig {dvs : List V} {f : Addr} {fd : FuncData} {kws : List (Str × V)} (F : FunD K "__init__" "Figure.__init__" (defArgs (inClass (top 24) 0)) (defBody (inClass (top 24) 0)) (defScope (inClass (top 24) 0)) dvs kws f fd) (h1 : dvs.length = 1) : Binds K fd ["self", "edges"] [] := by
  obtain ⟨ds, v, b⟩ := F.binds1 (ps := ["self", "edges"]) 2 1 (fun e => by rw [e] at h1; cases h1) (by rw [h1]; rfl) (fun T kV doc pm an cdv ct us its hu hi => by
    rw [h1] at hi
    match us, its, hu, hi with
    | [_, _], [_], _, _ => exact ⟨_, rfl, rfl⟩)
  rw [List.drop_eq_nil_of_le (by rw [h1]; exact Nat.le_refl _)] at v
  cases v
  exact b
theorem ok_fig {dvs : List V} {kws : List (Str × V)} {f fC : Addr} {fd fdC : FuncData} (F : FunD K "__init__" "Figure.__init__" (defArgs (inClass (top 24) 0)) (defBody (inClass (top 24) 0)) (defScope (inClass (top 24) 0)) dvs kws f fd) (T : Ta mg) (X : Tie K mg C fI) (XT : Ttl K mg CT fI) (Z : Kf K mg CF CH) (GI : FnOk P w K mg base CX0 1 fI fdI ["self", "value"] (spIni K)) (bI : Binds K fdI ["self", "value"] [])
    (GC : FnOk P w K mg base (L2N.CX P w) 4 fC fdC ["edges"] (spChk K C)) (AC : At K mg "_checked" fC fdC ["edges"]) :
    FnOk P w K mg base (L2N.CX P w) 5 f fd ["self", "edges"] (spFig K CF CH C CT) := by
  refine okND F scFi (fun vs H Q E h => by obtain ⟨x, dx, v, t, b, rfl, _⟩ := h; rfl) (fun cdv A outer s H vs Q E hr h tk => ?_)
  obtain ⟨x, dx, v, t, b, rfl, hx, ty, kh, kt, qf, qt⟩ := h
  obtain ⟨tM, hM⟩ := Z.most
  refine ⟨_, (pss_cons (ps_set (i := 2) scFi.nd rfl (Or.inl rfl) (pe_ifExp (pt_val (pe_callB call_isi (by rfl) T.isi (by decide +kernel) (pa_cons (pv 1) (pa_cons (pe_glob (v := .ref CH) rfl Z.gH rfl) pa_nil)))) (pe_fld (pv 1) (by rfl)) (pe_callS GC hr rfl AC.g AC.k AC.b (L2N.passAt tk) (pa_cons (pv 1) pa_nil))))
    (pss_cons (ps_if (pt_cmpR op_gt (pe_callB call_lenD (by rfl) T.len (by decide +kernel) (pa_cons (pv 2) pa_nil)) (pe_glob (v := .int 400) rfl hM ⟨_, rfl⟩) (nomark _)) (pss_one (L2N.ps_raise rfl tk (pmk_mkx XT.xc.mx GI (hr.mono (by decide)) bI rfl XT.gl (pe_callB call_lenD (by rfl) T.len (by decide +kernel) (pa_cons (pv 2) pa_nil))))) pss_nil)
    (pss_cons (ps_fld (pv 0) (pe_tupVals rfl (by rfl) T.tup (pv 2)) (by rfl))
    (pss_cons (ps_fld (pv 0) (pv 2) (by rfl)) (pss_cons (ps_fld (pv 0) pe_non (by rfl)) (pss_cons (ps_fld (pv 0) pe_non (by rfl)) (pss_one (ps_fld (pv 0) pe_non (by rfl))))))))), ?_⟩
  refine ⟨_, rfl, _, .ref CH, t, .ref CH, _, rfl, .own _, ty, kh, _, rfl, ?_⟩
  refine ⟨_, rfl, v, t, b, rfl, ty, kt, qf, fun hb => ?_⟩
  obtain ⟨a, xs, ds, rfl, sq, qb, qg⟩ := qt hb
  refine ⟨a, xs, ds, rfl, sq, qb, fun eg h kvs H1 s1 hk gd => ?_⟩
  obtain ⟨qL, qS⟩ := qg eg kvs gd
  have hx1 := s1 _ _ hx
  refine ⟨_, rfl, h, kvs, rfl, hk, _, _, rfl, rfl, _, rfl, ?_⟩
  by_cases big : 400 < kvs.length
  · refine ifT (decide_eq_true (by omega)) ?_
    exact ⟨_, rfl, h, kvs, rfl, hk, fun dy n nd => qL big dy _ (fun b o e => stay (s1 b o e) nd) XD.of⟩
  · refine ifF (decide_eq_false (by omega)) ?_
    refine ⟨_, rfl, h, kvs, rfl, hk, fun tt nt => ⟨_, rfl, x, CF, dx, [], rfl, stay hx1 nt, Z.cls, Z.nE, (by decide), ?_⟩⟩
    have ne : x ≠ tt := ne_of_none hx1 nt
    have ne2 : h ≠ x := fun e => by rw [e, hx1] at hk; cases hk
    have ne3 : h ≠ tt := ne_of_none hk nt
    refine ⟨_, rfl, _, rfl, x, CF, dx, _, rfl, upd_same, Z.cls, Z.nH, (by show 1 < 1000; decide), ?_⟩
    refine ⟨_, rfl, x, CF, dx, _, rfl, upd_same, Z.cls, Z.nL, (by show 2 < 1000; decide), ?_⟩
    refine ⟨_, rfl, x, CF, dx, _, rfl, upd_same, Z.cls, Z.nF, (by show 3 < 1000; decide), ?_⟩
    refine ⟨_, rfl, x, CF, dx, _, rfl, upd_same, Z.cls, Z.nG, (by show 4 < 1000; decide), ?_⟩
    refine qS (by omega) _ (fun c o nc e => ?_) ⟨dx, tt, h, upd_same, ?_, ?_⟩
    · rw [upd_ne nc, upd_ne nc, upd_ne nc, upd_ne nc, upd_ne nc]
      exact stay (s1 _ _ e) nt
    · rw [upd_ne ne.symm, upd_ne ne.symm, upd_ne ne.symm, upd_ne ne.symm, upd_ne ne.symm]
      exact upd_same
    · rw [upd_ne ne2, upd_ne ne2, upd_ne ne2, upd_ne ne2, upd_ne ne2]
      exact stay hk nt
end
end Y1
set_option Elab.async false
set_option linter.all false
set_option maxRecDepth 100000
set_option maxHeartbeats 4000000
/-! sorted(xs) of a list of data. -/
namespace Nv
open PySem PySem.Spec PyProof.Rows L2
section
variable {β : Type}
theorem each_zip {xs : List V} {bs : List β} : ∀ {ys : List V} {cs : List β} {us : List Value}, Vals ys us → ys.length = cs.length → (∀ p ∈ ys.zip cs, p ∈ xs.zip bs) → PySem.W.EachIs (fun v b => ∃ x, (x, b) ∈ xs.zip bs ∧ RelV x v) us cs
  | [], [], _, r, _, _ => by cases r; exact .nil
  | y :: ys, c :: cs, _, .cons h t, l, m => .cons ⟨y, m _ List.mem_cons_self, h⟩ (each_zip t (by simpa using l) fun p hp => m p (List.mem_cons_of_mem _ hp))
theorem zip_each {xs : List V} {bs : List β} : ∀ {us : List Value} {cs : List β}, PySem.W.EachIs (fun v b => ∃ x, (x, b) ∈ xs.zip bs ∧ RelV x v) us cs → ∃ ys, Vals ys us ∧ PySem.W.EachIs (fun y c => (y, c) ∈ xs.zip bs) ys cs
  | _, _, .nil => ⟨[], .nil, .nil⟩
  | _, _, .cons ⟨x, m, r⟩ t => by
    obtain ⟨ys, h1, h2⟩ := zip_each t
    exact ⟨x :: ys, .cons r h1, .cons m h2⟩
theorem zip_dvs {H : Hp} {enc : β → PyData} : ∀ {xs : List V} {bs : List β}, DVs H xs (bs.map enc) → ∀ p ∈ xs.zip bs, DV H p.1 (enc p.2)
  | [], _, _, p, hp => by rw [List.zip_nil_left] at hp; cases hp
  | _ :: _, [], _, p, hp => by rw [List.zip_nil_right] at hp; cases hp
  | x :: xs, b :: bs, d, p, hp => by
    have d : DVs H (x :: xs) (enc b :: bs.map enc) := d
    cases d with
    | cons h t =>
      rw [List.zip_cons_cons] at hp
      rcases List.mem_cons.mp hp with e | m
      · subst e
        exact h
      · exact zip_dvs t p m
/-- the sorted ones are data, too -/
theorem dvs_each {H : Hp} {enc : β → PyData} {xs : List V} {bs : List β} (d : DVs H xs (bs.map enc)) : ∀ {ys : List V} {cs : List β}, PySem.W.EachIs (fun y c => (y, c) ∈ xs.zip bs) ys cs → DVs H ys (cs.map enc)
  | _, _, .nil => .nil
  | _, _, .cons m t => .cons (zip_dvs d _ m) (dvs_each d t)
def rSortDat (K : PySem.W.Frag) (enc : β → PyData) : List V → Hp → VK → Prop := fun vs H Q => ∃ (a : Addr) (xs : List V) (bs : List β), vs = [.ref a] ∧ SqL K H a xs ∧ DVs H xs (bs.map enc) ∧ PySem.W.AllAlike (bs.map enc) ∧ PySem.W.Sortable (bs.map enc) ∧ bs.length ≤ 1000 ∧ (∀ b ∈ bs, (enc b).depth ≤ 60) ∧
  ∀ ys p, DVs H ys ((bs.mergeSort (PySem.W.dataLe false enc)).map enc) → H p = none → Q (.ref p) (upd H p (.lst ys))
theorem call_sortDat {X : Cx} (enc : β → PyData) (hu : X.A.units + 100 < cLine) : CallR X (.builtin "sorted") (rSortDat X.K enc) := by
  intro pins s σ H vs us Q I r h
  obtain ⟨a, xs, bs, rfl, hs, dv, hal, hk, hL, hd, q⟩ := h
  obtain ⟨its, rv, hl, hz⟩ := I.list hs
  obtain ⟨u, rfl, ru⟩ := vals1 r
  obtain rfl : u = Value.ref a := ru
  obtain ⟨as, ra⟩ := dv.reads I.hok rv
  have er := PySem.W.readsAll_each enc ra
  have ln : xs.length = bs.length := by rw [dv.length, List.length_map]
  have e := each_zip (xs := xs) (bs := bs) rv ln fun p hp => hp
  refine PySem.W.sorted_data (s := s) hl.isList e er hal hk (Nat.le_trans hL (by decide)) (fun b hb => ?_) fun out ho eo => ?_
  · have := hd b hb
    omega
  · obtain ⟨ys, vy, ey⟩ := zip_each eo
    obtain ⟨c, hc⟩ := PyProof.Rows.sortedAll_at s.heap its out.toArray
    have lz : ys.length ≤ sizeLine := by
      rw [vy.length, ho]
      exact Nat.le_trans hL (by decide)
    exact ⟨.ref (s.heap.objs.size + 1), upd H (s.heap.objs.size + 1) (.lst ys), I.laid (t' := s.toks) (fun b o => PyProof.Rows.sortedAll_old) (Nat.le_succ _) ⟨lz, out, c, vy, hc⟩, rfl, q ys _ (dvs_each dv ey) (I.hok.fresh (Nat.le_succ _))⟩
end
end Nv
set_option Elab.async false
set_option linter.all false
set_option maxRecDepth 100000
set_option maxHeartbeats 16000000
/-! Edges in their order. -/
namespace Y1
open PySem PySem.Spec PyProof.Rows L2 Nv
def ptP (p : Pt) : PyData := .tuple [.int p.1, .int p.2]
def eP (e : Eg) : PyData := .tuple [ptP e.1, ptP e.2]
theorem edB_on {e : Eg} (h : edB e = true) : onP e.1 = true ∧ onP e.2 = true ∧ (e.2 = (e.1.1, e.1.2 + 1) ∨ e.2 = (e.1.1 + 1, e.1.2)) := by
  simp only [edB, Bool.and_eq_true, Bool.or_eq_true, decide_eq_true_eq] at h
  exact ⟨h.1.1, h.1.2, h.2⟩
theorem edB_range {e : Eg} (h : edB e = true) : (0 ≤ e.1.1 ∧ e.1.1 ≤ 30 ∧ 0 ≤ e.1.2 ∧ e.1.2 ≤ 30) ∧ (0 ≤ e.2.1 ∧ e.2.1 ≤ 30 ∧ 0 ≤ e.2.2 ∧ e.2.2 ≤ 30) ∧ ((e.2.1 = e.1.1 ∧ e.2.2 = e.1.2 + 1) ∨ (e.2.1 = e.1.1 + 1 ∧ e.2.2 = e.1.2)) := by
  obtain ⟨h1, h2, h3⟩ := edB_on h
  simp only [onP, Bool.and_eq_true, decide_eq_true_eq] at h1 h2
  refine ⟨⟨h1.1.1, h1.1.2, h1.2.1, h1.2.2⟩, ⟨h2.1.1, h2.1.2, h2.2.1, h2.2.2⟩, ?_⟩
  rcases h3 with h3 | h3
  · exact .inl ⟨by rw [h3], by rw [h3]⟩
  · exact .inr ⟨by rw [h3], by rw [h3]⟩
theorem enum_inj {a b : Eg} (ha : edB a = true) (hb : edB b = true) (e : enum a = enum b) : a = b := by
  obtain ⟨a1, a2, a3⟩ := edB_range ha
  obtain ⟨b1, b2, b3⟩ := edB_range hb
  unfold enum at e
  obtain ⟨⟨x, y⟩, u, v⟩ := a
  obtain ⟨⟨x', y'⟩, u', v'⟩ := b
  dsimp only at *
  simp only [Prod.mk.injEq]
  omega
theorem numE_enum {e : Eg} (h : edB e = true) : numE (eP e) = enum e := by
  obtain ⟨a1, a2, a3⟩ := edB_range h
  obtain ⟨⟨x, y⟩, u, v⟩ := e
  dsimp only at *
  show 2 * (31 * x + y) + (if u = x + 1 then 1 else 0) = 2 * (31 * x + y) + (u - x)
  split <;> omega
theorem eqv_ptP (p q : Pt) : PyData.eqv (ptP p) (ptP q) = decide (p = q) := by
  obtain ⟨a, b⟩ := p
  obtain ⟨c, d⟩ := q
  simp only [ptP, PyData.eqv, PyData.eqvAll, Bool.and_true, Prod.mk.injEq]
  by_cases h1 : a = c <;> by_cases h2 : b = d <;> simp [h1, h2]
theorem eP_lt {a b : Eg} (ha : edB a = true) (hb : edB b = true) (h : enum a < enum b) : PySem.W.dataLt (eP a) (eP b) = true := by
  obtain ⟨a1, a2, a3⟩ := edB_range ha
  obtain ⟨b1, b2, b3⟩ := edB_range hb
  unfold enum at h
  have al : ∀ p q : Pt, PySem.W.alike (ptP p) (ptP q) = true := fun p q => by simp [ptP, PySem.W.alike, PySem.W.alikeAll]
  unfold eP
  rw [PySem.W.dataLt_pair (al _ _) (al _ _), eqv_ptP, eqv_ptP]
  obtain ⟨⟨x, y⟩, u, v⟩ := a
  obtain ⟨⟨x', y'⟩, u', v'⟩ := b
  dsimp only at *
  by_cases e : x = x' ∧ y = y'
  · obtain ⟨rfl, rfl⟩ := e
    rw [if_pos (by simp), if_neg (by simp; omega)]
    show PySem.W.dataLt (.tuple [.int u, .int v]) (.tuple [.int u', .int v']) = true
    rw [PySem.W.dataLt_ii]
    exact decide_eq_true (by omega)
  · rw [if_neg (by simp; omega)]
    show PySem.W.dataLt (.tuple [.int x, .int y]) (.tuple [.int x', .int y']) = true
    rw [PySem.W.dataLt_ii]
    exact decide_eq_true (by omega)
/-- the edges as sorted() brings them -/
def srt (es : List Eg) : List Eg := es.mergeSort (PySem.W.dataLe false eP)
theorem srt_perm (es : List Eg) : (srt es).Perm es := List.mergeSort_perm _ _
theorem alike_es (es : List Eg) : PySem.W.AllAlike (es.map eP) := .of fun a b => by simp [eP, ptP, PySem.W.alike, PySem.W.alikeAll]
theorem sortable_es (es : List Eg) : PySem.W.Sortable (es.map eP) := .tuples fun b => ⟨_, _, rfl⟩
end Y1
set_option Elab.async false
set_option linter.all false
set_option maxRecDepth 100000
set_option maxHeartbeats 16000000
/-! Sorted edges; texts that may be laid. -/
namespace Y1
open PySem PySem.Spec PyProof.Rows L2 Nv
theorem asc_uniq {a b : List Eg} (ha : Asc a) (hb : Asc b) (p : a.Perm b) : a = b :=
  p.eq_of_pairwise (le := fun x y => enum x < enum y) (fun x y _ _ h k => by omega) ha hb
/-! ### texts -/
theorem ok_of (s : String) : PyData.strOk (Str.ofString s) = true := by
  rw [Str.ofString_eq_toList]
  show Array.all _ _ = true
  rw [Array.all_eq_true']
  intro c hc
  have hc := Array.mem_toList_iff.mpr hc
  obtain ⟨z, _, rfl⟩ := List.mem_map.mp hc
  refine decide_eq_true ?_
  have := z.valid
  have e : z.toNat = z.val.toNat := rfl
  rcases this with h | h
  · have : z.val.toNat < 0xd800 := h
    omega
  · have : z.val.toNat < 0x110000 := h.2
    omega
theorem ok_app {a b : Str} (ha : PyData.strOk a = true) (hb : PyData.strOk b = true) : PyData.strOk (a ++ b) = true := by
  show (a.cps ++ b.cps).all _ = true
  rw [Array.all_append]
  have ha : a.cps.all (· < 0x110000) = true := ha
  have hb : b.cps.all (· < 0x110000) = true := hb
  rw [ha, hb]
  rfl
theorem ok_from : ∀ (ts : List Str) (k : Nat) (acc : Str), PyData.strOk acc = true → (∀ t ∈ ts, PyData.strOk t = true) → PyData.strOk (textFrom k acc ts) = true
  | [], _, _, h, _ => h
  | t :: r, k, acc, h, m => ok_from r (k + 1) _ (ok_app (ok_app h (by split <;> exact ok_of _)) (m t List.mem_cons_self)) fun u hu => m u (List.mem_cons_of_mem _ hu)
theorem ok_list {ts : List Str} (m : ∀ t ∈ ts, PyData.strOk t = true) : PyData.strOk (listText ts) = true := ok_app (ok_from ts 0 _ (ok_of _) m) (ok_of _)
theorem ok_join : ∀ (ts : List Str), (∀ t ∈ ts, PyData.strOk t = true) → PyData.strOk (Str.join ", " ts) = true
  | [], _ => ok_of ""
  | [x], m => m x List.mem_cons_self
  | x :: y :: r, m => ok_app (ok_app (m x List.mem_cons_self) (ok_of _)) (ok_join (y :: r) fun u hu => m u (List.mem_cons_of_mem _ hu))
theorem ok_tuple {ts : List Str} (m : ∀ t ∈ ts, PyData.strOk t = true) : PyData.strOk (tupleText ts) = true := ok_app (ok_app (ok_of _) (ok_join ts m)) (by split <;> exact ok_of _)
theorem ok_int (i : Int) : PyData.strOk (PyData.int i).shown = true := ok_of _
theorem ok_all {l : List PyData} (h : ∀ d ∈ l, PyData.strOk d.shown = true) : ∀ t ∈ PyData.shownAll l, PyData.strOk t = true := by
  induction l with
  | nil => intro t ht; cases ht
  | cons d r ih =>
    intro t ht
    rcases List.mem_cons.mp (show t ∈ d.shown :: PyData.shownAll r from ht) with e | m
    · rw [e]
      exact h d List.mem_cons_self
    · exact ih (fun x hx => h x (List.mem_cons_of_mem _ hx)) t m
theorem ok_pt (p : Pt) : PyData.strOk (ptP p).shown = true := ok_tuple (ok_all fun d hd => by
  rcases List.mem_cons.mp hd with e | m
  · rw [e]; exact ok_int _
  · rw [List.mem_singleton.mp m]; exact ok_int _)
theorem ok_edge (e : Eg) : PyData.strOk (eP e).shown = true := ok_tuple (ok_all fun d hd => by
  rcases List.mem_cons.mp hd with z | m
  · rw [z]; exact ok_pt _
  · rw [List.mem_singleton.mp m]; exact ok_pt _)
theorem ok_edges (es : List Eg) : PyData.strOk (PyData.tuple (es.map eP)).shown = true := ok_tuple (ok_all fun d hd => by
  obtain ⟨e, _, rfl⟩ := List.mem_map.mp hd
  exact ok_edge e)
theorem ok_edgesL (es : List Eg) : PyData.strOk (PyData.list (es.map eP)).shown = true := ok_list (ok_all fun d hd => by
  obtain ⟨e, _, rfl⟩ := List.mem_map.mp hd
  exact ok_edge e)
end Y1
set_option Elab.async false
set_option linter.all false
set_option maxRecDepth 100000
set_option maxHeartbeats 16000000
/-! {**a, **b}: two dicts put into a new one. -/
namespace Nv
open PySem PySem.Spec PyProof.Rows L2
section
variable {prog : Program} {w : World} {A : Around} {E : Value → Shared → Prop} {s : Shared}
theorem dput_pairs {d : Addr} {kvs : List (Key × Value)} {k : Key} {key v : Value} {Q : Unit → Shared → Prop} (hkey : (mixKind prog w).is k key = true) (hm : s.heap.DictOf (mixKind prog w) d kvs) (hsz : kvs.length ≤ sizeLine)
    (hQ : ∀ h', h'.DictOf (mixKind prog w) d (stored kvs k v) → Heap.SameBut d s.heap h' → Q () { s with heap := h' }) : wpAny (model prog w) A (dictPut d ((mixKind prog w).hash k) key v) Q E s := by
  obtain ⟨o, es, ep, ho, hc, hd, hk, hp, hn⟩ := hm
  have hlen : es.toList.length = es.size := by simp
  have hes : es.size ≤ sizeLine := by
    have := hp.length
    omega
  have at_ : es.findIdx? (fun e => (mixKind prog w).is k e.key) = kvs.findIdx? fun kv => decide (kv.1 = k) := by
    rw [← hp.findIdx k]
    obtain ⟨l⟩ := es
    simp
  unfold dictPut
  refine wpAny_bind (wpAny_dictFind_of hkey ho hd hk ?_)
  cases hi : es.findIdx? fun e => (mixKind prog w).is k e.key with
  | some i =>
    have old : (kvs.any fun kv => decide (kv.1 = k)) = true := any_of_findIdx_some (at_ ▸ hi)
    refine wpAny_updateDict ho hd (hQ _ ⟨_, _, ep, Heap.get?_update_self _ ho (Obj.isFreed_of_dict (Obj.data_mapDict hd _)), hc.mapDict _, Obj.data_mapDict hd _, hk.modify _ _, ?_, ?_⟩ (Heap.SameBut.update ..))
    · have hl : (es.toList.findIdx? fun e => (mixKind prog w).is k e.key) = some i := by
        rw [← hi]
        obtain ⟨l⟩ := es
        simp
      have z := hp.modify hn hl v
      rw [stored, if_pos old]
      obtain ⟨l⟩ := es
      simpa using z
    · rw [stored, if_pos old, keys_map_store]
      exact hn
  | none =>
    have new : k ∉ kvs.map (·.1) := not_mem_of_findIdx_none (at_ ▸ hi)
    have fresh : ¬ (kvs.any fun kv => decide (kv.1 = k)) = true := fun z => by
      obtain ⟨p, hp', e⟩ := List.any_eq_true.mp z
      exact new (List.mem_map.mpr ⟨p, hp', of_decide_eq_true e⟩)
    refine wpAny_updateDictKeys (hz := hes) ho hd (hQ _ ⟨_, _, ep + 1, Heap.get?_update_self _ ho (Obj.isFreed_of_dict (Obj.data_mapDictKeys hd _)), hc.mapDictKeys _, Obj.data_mapDictKeys hd _, hk.push hkey _, ?_, ?_⟩ (Heap.SameBut.update ..))
    · have z := hp.append hkey ((mixKind prog w).hash k) v
      rw [stored, if_neg fresh]
      obtain ⟨l⟩ := es
      simpa using z
    · rw [stored, if_neg fresh, List.map_append, List.nodup_append]
      refine ⟨hn, by simp, fun a ha b hb => ?_⟩
      rw [List.map_cons, List.map_nil, List.mem_singleton] at hb
      subst hb
      exact fun e => new (e ▸ ha)
/-- no key of the kind is an object -/
theorem key_noref {k : Key} {u : Value} (h : (mixKind prog w).is k u = true) : ∀ a, u ≠ .ref a := by
  rintro a rfl
  cases k <;> cases h
theorem both_ways {α β γ : Type} {M : Model} {c : Prop} [Decidable c] {p : Sem β} {q : β → Sem γ} {k : Sem α} {Q : α → Shared → Prop} (hk : wpAny M A k Q E s) (hp : wpAny M A p (fun b s1 => wpAny M A (q b) (fun _ s2 => s2 = s) E s1) E s) :
    wpAny M A (if c then p >>= fun b => q b >>= fun _ => k else k) Q E s := by
  split
  · exact wpAny_bind (wpAny_mono hp (fun b s1 h1 => wpAny_bind (wpAny_mono h1 (fun _ s2 h2 => h2 ▸ hk) fun _ _ e => e)) fun _ _ e => e)
  · exact hk
theorem merge_pairs {d o : Addr} {kvs more : List (Key × Value)} {Q : Unit → Shared → Prop} (hdo : d ≠ o) (hoS : (o == sysModules) = false) (hd : s.heap.DictOf (mixKind prog w) d kvs) (ho : s.heap.DictOf (mixKind prog w) o more)
    (hsz : kvs.length + more.length ≤ sizeLine) (hQ : ∀ h', h'.DictOf (mixKind prog w) d (merged kvs more) → Heap.SameBut d s.heap h' → Q () { s with heap := h' }) :
    wpAny (model prog w) A (mergeMapping d (.ref o) false) Q E s := by
  obtain ⟨od, esd, epd, hod, hcd, hdd, hkd, hpd, hnd⟩ := id hd
  obtain ⟨oo, eso, epo, hoo, hco, hdo', hko, hpo, hno⟩ := id ho
  unfold mergeMapping
  have hlen : more.length = eso.size := by
    rw [← hpo.length]
    simp
  refine wpAny_bind (wpAny_isInstance (T := "dict") ho.typeIs PySem.F.sub_dict_dict ?_)
  rw [if_pos rfl]
  refine wpAny_bind (wpAny_bind (wpAny_typeOf ho.typeIs (wpAny_of_eq PySem.F.slot_dict_iter.lookup ?_)))
  refine wpAny_bind (wpAny_pure ?_)
  rw [show (some (Value.builtin "dict.__iter__") == some (Value.builtin "dict.__iter__")) = true from by decide +kernel]
  dsimp only
  rw [if_neg (by rw [hoS]; exact Bool.false_ne_true)]
  refine wpAny_bind (wpAny_dictEntries hod hdd ?_)
  refine both_ways ?_ ?_
  · refine wpAny_bind (wpAny_dictEntries hoo hdo' ?_)
    refine wpAny_bind (wpAny_dictEpoch hoo hdo' ?_)
    refine wpAny_bind (wpAny_forIn_list _ (fun rest _ s' => ∃ h' i, s' = { s with heap := h' } ∧ rest = List.range' i (eso.size - i) ∧ i ≤ eso.size ∧ h'.DictOf (mixKind prog w) d (merged kvs (more.take i)) ∧ h'.get? o = some oo ∧ Heap.SameBut d s.heap h') _ ?_ ?_ _ _
      ⟨s.heap, 0, rfl, by rw [List.range_eq_range']; rfl, Nat.zero_le _, by simpa [merged] using hd, hoo, Heap.SameBut.refl _ _⟩)
    · rintro x rest b s' ⟨h', i, rfl, hr, hi, hd', hoo', hs'⟩
      have hlt : i < eso.size := by
        rcases Nat.lt_or_ge i eso.size with h | h
        · exact h
        · rw [Nat.sub_eq_zero_of_le h] at hr
          cases hr
      rw [show eso.size - i = (eso.size - (i + 1)) + 1 by omega, List.range'_succ] at hr
      injection hr with h1 h3
      subst h1
      refine wpAny_bind (wpAny_dictEntries hoo' hdo' ?_)
      rw [Array.getElem?_eq_getElem hlt]
      have hx : more[x]? = some (more[x]'(by rw [hlen]; exact hlt)) := List.getElem?_eq_getElem _
      obtain ⟨hkey, hval⟩ := hpo.get? (e := eso[x]) (by simp [hlt]) hx
      obtain ⟨k', hkey', hhash⟩ := hko eso[x] (Array.getElem_mem hlt)
      have hv2 : eso[x].val = (more[x]'(by rw [hlen]; exact hlt)).2 := hval
      have ek : k' = (more[x]'(by rw [hlen]; exact hlt)).1 := (mixKind prog w).inj _ _ _ hkey' hkey
      have short : (merged kvs (more.take x)).length ≤ sizeLine := by
        have e1 := merged_length_le kvs (more.take x)
        have e2 : (more.take x).length ≤ more.length := by
          rw [List.length_take]
          omega
        omega
      dsimp only
      refine wpAny_bind (wpAny_holding ?_)
      rw [if_neg Bool.false_ne_true, hhash, ek]
      refine dput_pairs hkey hd' short fun h2 hd2 hs2 => ?_
      have ho2 : h2.get? o = some oo := (hs2.2 o (Ne.symm hdo)).trans hoo'
      refine wpAny_bind (wpAny_dictEpoch ho2 hdo' ?_)
      rw [if_neg (by simp)]
      exact wpAny_pure ⟨h2, x + 1, rfl, h3, hlt, by rw [merged_take_succ kvs more x _ hx, ← hv2]; exact hd2, ho2, hs'.trans hs2⟩
    · rintro b s' ⟨h', i, rfl, hr, hi, hd', hoo', hs'⟩
      have hin : i = eso.size := by
        rcases Nat.lt_or_ge i eso.size with h | h
        · rw [show eso.size - i = (eso.size - (i + 1)) + 1 by omega, List.range'_succ] at hr
          cases hr
        · exact Nat.le_antisymm hi h
      rw [hin, ← hlen, List.take_length] at hd'
      exact wpAny_pure (hQ h' hd' hs')
  · refine wpAny_dictEntries hoo hdo' ?_
    rw [← Array.forIn_toList]
    refine wpAny_forIn_list _ (fun rest _ s' => s' = s ∧ ∀ e ∈ rest, e ∈ eso) _ ?_ (fun _ _ h => h.1) _ _ ⟨rfl, fun e he => Array.mem_toList_iff.mp he⟩
    rintro e rest b s' ⟨rfl, hm⟩
    obtain ⟨k', hkey', -⟩ := hko e (hm e List.mem_cons_self)
    split
    · exact absurd ‹_› (key_noref hkey' _)
    · exact wpAny_pure ⟨rfl, fun e' he' => hm e' (List.mem_cons_of_mem _ he')⟩
end
/-- {**a, **b} -/
def tMerge (ta tb : TE) : TE := fun σ H Q => ∀ p, H p = none → ta σ (upd H p (.dK [])) fun x H1 => ∃ a ka, x = .ref a ∧ a ≠ p ∧ H1 p = some (.dK []) ∧ H1 a = some (.dK ka) ∧ ka.length ≤ 1000 ∧
  tb σ (upd H1 p (.dK (mergeK [] ka))) fun y H2 => ∃ b kb, y = .ref b ∧ b ≠ p ∧ H2 p = some (.dK (mergeK [] ka)) ∧ H2 b = some (.dK kb) ∧ kb.length ≤ 1000 ∧ Q (.ref p) (upd H2 p (.dK (mergeK (mergeK [] ka) kb)))
section
variable {X : Cx} {ea eb : Expr} {ta tb : TE} {pos : Pos}
theorem merge_at {pins : List (Addr × Obj)} {σ : L2.St} {H : Hp} {s : Shared} {A : Around} {E : Value → Shared → Prop} {Q : Unit → Shared → Prop} {p a : Addr} {kp ka : List (Key × V)} (I : Inv X pins σ H s) (ne : a ≠ p) (hp : H p = some (.dK kp)) (ha : H a = some (.dK ka)) (l1 : kp.length ≤ 1000) (l2 : ka.length ≤ 1000)
    (q : ∀ s', Inv X pins σ (upd H p (.dK (mergeK kp ka))) s' → Q () s') : wpAny (model X.prog X.w) A (mergeMapping p (.ref a) false) Q E s := by
  obtain ⟨_, hd, vs, r0, dd⟩ := dk_of I.hok hp
  obtain ⟨_, hda, va, ra, da⟩ := dk_of I.hok ha
  have e1 := r0.length
  have e2 := ra.length
  refine merge_pairs (Ne.symm ne) hda dd da (Nat.le_trans (show vs.length + va.length ≤ 2000 by omega) (by decide)) fun h' dd' hs => q _ ?_
  have hz : (mergeK kp ka).length ≤ sizeLine := Nat.le_trans (Nat.le_trans (length_mergeK ka kp) (show kp.length + ka.length ≤ 2000 by omega)) (by decide)
  have he : ∃ q, h'.get? p = some q := let ⟨q, _, _, hq, _⟩ := dd'; ⟨q, hq⟩
  exact d_write I (by rw [hp]; exact True.intro) hs he (dk_new hz hd (ra.merge r0) dd')
theorem pe_merge (ha : PE X ea ta) (hb : PE X eb tb) : PE X (.Dict [none, none] [ea, eb] pos) (tMerge ta tb) := by
  refine ⟨fun pins s σ H Q I q => ?_⟩
  have hn := I.hok.fresh (Nat.le_refl s.heap.objs.size)
  have I1 := I.laid (a := s.heap.objs.size) (o := .dK []) (h' := s.heap.push { cls := .type "dict", data := .dict #[] }) (t' := s.toks) (fun _ _ q => Heap.get?_push_of_some _ q) (Nat.le_refl _) (dk_empty s.heap I.big)
  rw [arm_eval_Dict]
  refine wpAny_bind (wpAny_standAt ?_)
  unfold dictDisplay
  have ez : (evalEachOpt [none, none] X.env).zip ((evalEach [ea, eb] X.env).map fun v => do let x ← v; standAt pos; pure x) = [(none, do let x ← eval ea X.env; standAt pos; pure x), (none, do let x ← eval eb X.env; standAt pos; pure x)] := rfl
  rw [ez]
  dsimp only
  rw [List.forIn_cons]
  refine wpAny_bind (wpAny_bind ?_)
  dsimp only
  rw [if_pos (show ([] : List (Sem Value × Sem Value)).isEmpty = true from rfl)]
  refine wpAny_bind (wpAny_pure ?_)
  dsimp only
  refine wpAny_bind (wpAny_alloc ?_)
  refine wpAny_bind (wpAny_holding (wpAny_bind (wpAny_mono (ha.run pins _ σ _ _ I1 (q _ hn)) ?_ fun _ _ e => e)))
  rintro u s1 ⟨x, H1, I2, rx, a, ka, rfl, ne, hp, haH, l1, q2⟩
  cases (show u = Value.ref a from rx)
  refine wpAny_bind (wpAny_standAt (wpAny_pure ?_))
  refine wpAny_bind (wpAny_onRaise (wpAny_tryCatch (wpAny_onRaise (wpAny_holding (merge_at I2 ne hp haH (Nat.zero_le _) l1 fun s2 I3 => ?_)))))
  refine wpAny_pure ?_
  dsimp only
  rw [List.forIn_cons]
  refine wpAny_bind ?_
  dsimp only
  rw [if_pos (show ([] : List (Sem Value × Sem Value)).isEmpty = true from rfl)]
  refine wpAny_bind (wpAny_pure ?_)
  dsimp only
  refine wpAny_bind (wpAny_pure ?_)
  refine wpAny_bind (wpAny_holding (wpAny_bind (wpAny_mono (hb.run pins _ σ _ _ I3 q2) ?_ fun _ _ e => e)))
  rintro u s3 ⟨y, H2, I4, ry, b, kb, rfl, ne2, hp2, hbH, l2, q3⟩
  cases (show u = Value.ref b from ry)
  refine wpAny_bind (wpAny_standAt (wpAny_pure ?_))
  have lm : (mergeK [] ka).length ≤ 1000 := Nat.le_trans (length_mergeK ka []) (by rw [List.length_nil]; omega)
  refine wpAny_bind (wpAny_onRaise (wpAny_tryCatch (wpAny_onRaise (wpAny_holding (merge_at I4 ne2 hp2 hbH lm l2 fun s4 I5 => ?_)))))
  refine wpAny_pure ?_
  dsimp only
  rw [List.forIn_nil]
  refine wpAny_pure ?_
  dsimp only
  rw [if_pos (show ([] : List (Sem Value × Sem Value)).isEmpty = true from rfl)]
  refine wpAny_bind (wpAny_pure ?_)
  dsimp only
  exact wpAny_pure ⟨.ref s.heap.objs.size, _, I5, rfl, q3⟩
end
end Nv
set_option Elab.async false
set_option linter.all false
set_option maxRecDepth 100000
set_option maxHeartbeats 16000000
/-! x op y by an own def: | & - ^ of instances. -/
namespace Nv
open PySem PySem.Spec PyProof.Rows L2
/-- what the class at C, whose def for the operator nm is at f, says of it; Ts are the built-in types that may stand behind it -/
structure OpB (K : PySem.W.Frag) (C f : Addr) (nm : String) (Ts : List String) : Prop where
  one : PySem.W.selfFirst K C = true
  at_ : PySem.W.findIn K (.ref C) (PySem.dunder nm) = some (some (.ref f))
  fn : PySem.W.isFn K (.ref f) = true
  no : PySem.W.findIn K (.ref C) (dunderR nm) = some none
  ty : ∀ T ∈ Ts, (PySem.W.findIn K (.type T) (PySem.dunder nm)).isSome = true ∧ (PySem.W.findIn K (.type T) (dunderR nm)).isSome = true ∧ PySem.W.subIn K (.type T) (.ref C) = some false
section
variable {prog : Program} {w : World} {A : Around} {E : Value → Shared → Prop} {s : Shared} {K : PySem.W.Frag} {x C L f : Addr} {h₀ : Heap} {m : Str → Option Value} {ox : Obj} {od : Option Obj}
theorem op_built {op : Operator} {Ts : List String} {T : String} {y : Value} {Q : Value → Shared → Prop} (fr : PyProof.Rows.Fr h₀ L s.heap m) (kin : K.In h₀) (inst : PySem.W.InstAt s.heap x ox C od) (O : OpB K C f op.info.2 Ts) (hT : T ∈ Ts)
    (hy : PySem.W.Looks (model prog w) s.heap (typeOf y) (.type T)) (q : wpAny (model prog w) A (call (.ref f) [.ref x, y]) (PySem.W.CmpBack Q) E s) : wpAny (model prog w) A (binaryOp op (.ref x) y) Q E s := by
  have inK := kin.keeps fr.keep
  obtain ⟨cd, rest, hcd, hmro⟩ := PySem.W.ksp_first O.one
  obtain ⟨t1, t2, t3⟩ := O.ty T hT
  obtain ⟨y1, h1⟩ := Option.isSome_iff_exists.mp t1
  obtain ⟨y2, h2⟩ := Option.isSome_iff_exists.mp t2
  have asked := PySem.W.ksp_try inK inst O.at_ O.fn q
  obtain ⟨O1, O2, O3, O4, -⟩ := O
  generalize hi : op.info = sn at *
  obtain ⟨sym, nm⟩ := sn
  dsimp only at *
  obtain ⟨hh, gg, dd, tt, oo⟩ := s
  have Lx : PySem.W.Looks (model prog w) hh (typeOf (.ref x)) (.ref C) := inst.type
  have Lf : PySem.W.Looks (model prog w) hh (fillsNumberSlot (.ref C) nm) true := PySem.W.fills_K inK hcd hmro O2
  have Lg := PySem.W.ksp_fillsT (M := model prog w) inK h1 h2
  have Ls : PySem.W.Looks (model prog w) hh (isSubtype (.type T) (.ref C)) false := PySem.W.looks_subIn inK t3
  have Lp : PySem.W.Looks (model prog w) hh (numberSlotInPython (.ref C) nm) true := PySem.W.ksp_inPy inK O2 O4 (.inl rfl)
  have Lq : PySem.W.Looks (model prog w) hh (numberSlotInPython (.type T) nm) false := PySem.W.Looks.of_pure rfl
  have Lr : PySem.W.Looks (model prog w) hh (typeLookup (.type T) (dunderR nm)) y2 := PySem.W.looks_findIn inK h2
  generalize ((y1.isSome && !isSeqSlot y1) || (y2.isSome && !isSeqSlot y2)) = fills at Lg
  have unlike : (Value.ref C == Value.type T) = false := Bool.eq_false_iff.mpr fun z => nomatch (beq_iff_eq.mp z)
  simp only [binaryOp, hi]
  refine wpAny_holding (wpAny_bind ?_)
  unfold binaryOp1
  refine wpAny_bind (Lx.at (wpAny_bind (hy.at (wpAny_bind (Lf.at ?_)))))
  simp only [unlike, Bool.false_eq_true, if_false]
  cases fills
  all_goals
    ksp_lk
    refine wpAny_mono asked ?_ fun _ _ z => z
    rintro r s' ⟨v, rfl, hq⟩
    ksp_lk
    exact hq
end
section
variable {X : Cx} {CX : CXT} {k : Nat} {C f : Addr} {fd : FuncData} {ps : List Str} {sp : Sp} {pos : Pos} {a b : Expr} {ta tb : TE} {Ts : List String}
theorem ins_obj {pins : List (Addr × Obj)} {σ : L2.St} {H : Hp} {s : Shared} (I : Inv X pins σ H s) {a dx : Addr} {fs : List (Str × V)} (ha : H a = some (.ins C dx fs)) : ∃ od, PySem.W.InstAt s.heap a (PySem.W.instObj C dx) C (some od) := by
  obtain ⟨_, _, _, e, mA, ns, _⟩ := I.hok a _ ha
  obtain ⟨od, hod, _⟩ := lookIn_ns ns
  exact ⟨od, ⟨e, rfl, rfl, hod⟩⟩
/-- x op y: x an instance of the class at C, y another one or of a built-in type -/
def tOwnB (K : PySem.W.Frag) (C : Addr) (Ts : List String) (sp : Sp) (E : L2.St → XK) (ta tb : TE) : TE := fun σ H Q => ta σ H fun x H1 => tb σ H1 fun y H2 => ∃ a dx fs t, x = .ref a ∧ H2 a = some (.ins C dx fs) ∧ TyX K H2 y t ∧ (t = .ref C ∨ ∃ T ∈ Ts, t = .type T) ∧ sp [x, y] H2 Q (E σ)
theorem pe_ownB {op : Operator} {E : L2.St → XK} (O : OpB X.K C f op.info.2 Ts) (F : FnOk X.prog X.w X.K X.mg X.base CX k f fd ps sp) (hr : Room k X.A) (hb : Binds X.K fd ps []) (hx : ∀ σ, PassesAt CX X σ (E σ)) (ha : PE X a ta) (hb' : PE X b tb) : PE X (.BinOp a op b pos) (tOwnB X.K C Ts sp E ta tb) := by
  refine ⟨fun pins s σ H Q I h => wpAny_BinOp (binT ha hb' I h fun v u s2 x y H2 I2 rx ry q => ?_)⟩
  obtain ⟨a', dx, fs, t, rfl, hi, ty, ht, q⟩ := q
  cases (show v = Value.ref a' from rx)
  obtain ⟨od, inst⟩ := ins_obj I2 hi
  obtain ⟨m, fr⟩ := I2.fr
  obtain ⟨P, kx, hp, _⟩ := kit_of I2 ry ty
  have Ly := kx.ty (model X.prog X.w) s2.heap I2.kIn hp
  have run : wpAny (model X.prog X.w) X.A (call (.ref f) [.ref a', u]) (PySem.W.CmpBack (EP X pins σ Q)) X.xe s2 :=
    wpAny_mono (run_fnS (us := [.ref a', u]) (vs := [.ref a', y]) F hr hb (hx σ) I2 (.cons rfl (.cons ry .nil)) q) (fun r s' z => by
      obtain ⟨z', H', I', rz, qz⟩ := z
      exact SlX.cmpback rz ⟨z', H', I', rz, qz⟩) fun _ _ z => z
  rcases ht with rfl | ⟨T, hT, rfl⟩
  · exact PySem.W.binop_K fr I2.ok.mod.kin inst Ly O.one O.at_ O.fn run
  · exact op_built fr I2.ok.mod.kin inst O hT Ly run
/-- the same where the context may not be spoken of -/
theorem pe_ownBK {K : PySem.W.Frag} (e0 : X.K = K) {op : Operator} {E : L2.St → XK} (O : OpB K C f op.info.2 Ts) (F : FnOk X.prog X.w X.K X.mg X.base CX k f fd ps sp) (hr : Room k X.A) (hb : Binds X.K fd ps []) (hx : ∀ σ, PassesAt CX X σ (E σ)) (ha : PE X a ta) (hb' : PE X b tb) : PE X (.BinOp a op b pos) (tOwnB K C Ts sp E ta tb) := by
  subst e0
  exact pe_ownB O F hr hb hx ha hb'
end
end Nv
set_option Elab.async false
set_option linter.all false
set_option maxRecDepth 100000
set_option maxHeartbeats 16000000
/-! Held, a Figure of it, _check_figure, _left_over. -/
namespace Y1
open PySem PySem.Spec PyProof.Rows L2 Nv
def spHeld (CH : Addr) : Sp := fun vs H Q _ => ∃ x dx v, vs = [.ref x, v] ∧ H x = some (.ins CH dx []) ∧ Q .non (upd H x (.ins CH dx [("by_number", v)]))
/-- Figure's __init__ of an instance of Held -/
def spFigH (CF CH CT : Addr) : Sp := fun vs H Q E => ∃ x dx y dy h kvs, vs = [.ref x, .ref y] ∧ H x = some (.ins CF dx []) ∧ H y = some (.ins CH dy [("by_number", .ref h)]) ∧ H h = some (.dK kvs) ∧
  (400 < kvs.length → ∀ dx H', Same H H' → XD H' dx (.int kvs.length) → E (.ref CT) (some dx) H') ∧ (kvs.length ≤ 400 → ∀ H', But x H H' → FigAt CF H' x kvs → Q .non H')
def spCf (K : PySem.W.Frag) (CF CI : Addr) : Sp := fun vs H Q E => ∃ v t b, vs = [v] ∧ TyX K H v t ∧ PySem.W.kitOne K t (.ref CF) = some b ∧ (b = false → ∀ dx H', Same H H' → XD H' dx v → E (.ref CI) (some dx) H') ∧ (b = true → Q .non H)
/-- those of ka that are not in kb -/
def leftK (ka kb : List (Key × V)) : List (Key × V) := ka.filter fun e => !(valV kb e.1).isSome
def bothK (ka kb : List (Key × V)) : List (Key × V) := ka.filter fun e => (valV kb e.1).isSome
def spLeft : Sp := fun vs H Q _ => ∃ a b ka kb, vs = [.ref a, .ref b] ∧ H a = some (.dK ka) ∧ H b = some (.dK kb) ∧ IntKeys ka ∧ ka.length ≤ 1000 ∧ ∀ p H', Same H H' → H' p = some (.dK (leftK ka kb)) → Q (.ref p) H'
structure Tif (K : PySem.W.Frag) (mg : Str → Option Value) (C fI : Addr) : Prop where
  xc : Xc K C fI
  gl : mg "InvalidFigure" = some (.ref C)
section
variable {P : Program} {w : World} {K : PySem.W.Frag} {mg : Str → Option Value} {base : Heap} {C CI CT CF CH fI : Addr} {fdI : FuncData}
abbrev sHi : Stmt := inClass (top 23) 0
theorem scHi : FnScope ["self", "by_number"] ["self", "by_number"] (defScope sHi) := ⟨rfl, rfl, rfl, by decide +kernel, rfl, by decide +kernel, by decide +kernel⟩
theorem ok_held {f : Addr} {fd : FuncData} (F : Fun K "__init__" "Held.__init__" sHi f fd) (Z : Kf K mg CF CH) : FnOk P w K mg base CX0 1 f fd ["self", "by_number"] (spHeld CH) := by
  refine F.ok scHi (fun vs H Q E h => by obtain ⟨x, dx, v, rfl, _⟩ := h; rfl) (fun cdv A outer s H vs Q E hr h => ?_)
  obtain ⟨x, dx, v, rfl, hx, q⟩ := h
  refine ⟨_, pss_one (ps_fld (pv 0) (pv 1) (by rfl)), ?_⟩
  exact ⟨_, rfl, _, rfl, x, CH, dx, [], rfl, hx, Z.clsH, Z.nB, (by decide), q⟩
theorem scCf : FnScope ["value"] ["value"] (defScope (top 31)) := ⟨rfl, rfl, rfl, by decide +kernel, rfl, by decide +kernel, by decide +kernel⟩
theorem ok_cf {f : Addr} {fd : FuncData} (F : Fun K "_check_figure" "_check_figure" (top 31) f fd) (T : Ta mg) (X : Tif K mg CI fI) (Z : Kf K mg CF CH) (GI : FnOk P w K mg base CX0 1 fI fdI ["self", "value"] (spIni K)) (bI : Binds K fdI ["self", "value"] []) :
    FnOk P w K mg base (L2N.CX P w) 4 f fd ["value"] (spCf K CF CI) := by
  refine okN F scCf (fun vs H Q E h => by obtain ⟨v, t, b, rfl, _⟩ := h; rfl) (fun cdv A outer s H vs Q E hr h tk => ?_)
  obtain ⟨v, t, b, rfl, ty, kt, qf, qt⟩ := h
  refine ⟨_, pss_one (ps_if (pt_not (pt_val (pe_callB call_isi (by rfl) T.isi (by decide +kernel) (pa_cons (pv 0) (pa_cons (pe_glob (v := .ref CF) rfl Z.gF rfl) pa_nil))))) (pss_one (L2N.ps_raise rfl tk (pmk_mkx X.xc.mx GI (hr.mono (by decide)) bI rfl X.gl (pv 0)))) pss_nil), ?_⟩
  refine ⟨_, rfl, _, .ref CF, t, .ref CF, b, rfl, .own _, ty, kt, _, rfl, ?_⟩
  cases b with
  | false => exact ⟨_, rfl, fun dx n nd => qf rfl dx _ (fun b o e => stay e nd) XD.of⟩
  | true => exact qt rfl
end
def figL (tt hh : Addr) (lv : V) : List (Str × V) := [("edges", .ref tt), ("_held", .ref hh), ("_letters", lv), ("_forks", .non), ("_ground", .non)]
/-- a figure with these edges by number, its letters found or not -/
def FigAtL (CF : Addr) (H : Hp) (x : Addr) (kvs : List (Key × V)) : Prop := ∃ dx tt hh lv, H x = some (.ins CF dx (figL tt hh lv)) ∧ H tt = some (.tup (kvs.map (·.2))) ∧ H hh = some (.dK kvs)
end Y1
set_option Elab.async false
set_option linter.all false
set_option maxRecDepth 100000
set_option maxHeartbeats 16000000
/-! Parts of a dict of numbers: _left_over and what & keeps. -/
namespace Y1
open PySem PySem.Spec PyProof.Rows L2 Nv
/-- the entries of a dict whose keys are unlike: a part of them, put one by one into an empty dict -/
def parted (p : Key × V → Bool) (kvs : List (Key × V)) (i : Nat) : List (Key × V) := (kvs.take i).filter p
theorem parted_succ {p : Key × V → Bool} {kvs : List (Key × V)} {i : Nat} {e : Key × V} (h : kvs[i]? = some e) : parted p kvs (i + 1) = if p e = true then parted p kvs i ++ [e] else parted p kvs i := by
  unfold parted
  rw [List.take_add_one, h, List.filter_append]
  show _ ++ [e].filter p = _
  rw [List.filter_cons, List.filter_nil]
  split
  · rfl
  · exact List.append_nil _
theorem parted_put {p : Key × V → Bool} {kvs : List (Key × V)} {ks : List Int} (hk : kvs.map (·.1) = ks.map Sum.inl) (nd : ks.Nodup) {i : Nat} {k : Key} {v : V} (h : kvs[i]? = some (k, v)) : putK (parted p kvs i) k v = parted p kvs i ++ [(k, v)] := by
  refine putK_new v ?_
  cases e : valV (parted p kvs i) k with
  | none => rfl
  | some u =>
    have m : k ∈ (parted p kvs i).map (·.1) := valV_in e
    obtain ⟨q, hq, rfl⟩ := List.mem_map.mp m
    obtain ⟨j, hj, ej⟩ := List.mem_iff_getElem.mp (List.mem_filter.mp hq).1
    have hi := (List.getElem?_eq_some_iff.mp h).1
    have hj2 : j < i := by
      rw [List.length_take] at hj
      omega
    rw [List.getElem_take] at ej
    have nd2 : (kvs.map (·.1)).Nodup := by
      rw [hk]
      exact List.Pairwise.map Sum.inl (fun a b ne e => ne (Sum.inl.inj e)) nd
    have u := List.pairwise_iff_getElem.mp nd2 j i (by rw [List.length_map]; omega) (by rw [List.length_map]; exact hi) hj2
    have ei := (List.getElem?_eq_some_iff.mp h).2
    rw [List.getElem_map, List.getElem_map, ej, ei] at u
    exact (u rfl).elim
theorem parted_len {p : Key × V → Bool} {kvs : List (Key × V)} {i : Nat} : (parted p kvs i).length ≤ kvs.length := by
  unfold parted
  refine Nat.le_trans (List.length_filter_le _ _) ?_
  rw [List.length_take]
  omega
theorem parted_all {p : Key × V → Bool} {kvs : List (Key × V)} : parted p kvs kvs.length = kvs.filter p := by
  unfold parted
  rw [List.take_length]
theorem part_items {K : PySem.W.Frag} {a : Addr} {ka : List (Key × V)} {ks : List Int} {p : Key × V → Bool} {td : TE} {tt : TT} {x0 x1 o2 o3 : Option V} {H : Hp} {Q : VK} (ha : H a = some (.dK ka)) (hks : ka.map (·.1) = ks.map Sum.inl) (nd : ks.Nodup) (l1 : ka.length ≤ 1000)
    (htd : ∀ od R, R (.ref a) (upd H a (.frz od (.dK ka))) → td [x0, x1, o2, o3] (upd H a (.frz od (.dK ka))) R)
    (htt : ∀ od H' k v R, (∀ b o, upd H a (.frz od (.dK ka)) b = some o → H' b = some o) → R (p (k, v)) H' → tt [x0, x1, some (kV k), some v] H' R)
    (q : ∀ D H', Same H H' → H' D = some (.dK (ka.filter p)) → Q (.ref D) H') :
    tLockE (tDc (iItems td) (gTup K 2 (gCons (gName 2) (gCons (gName 3) gNil))) tt (tVar 2) (tVar 3) [2, 3]) [x0, x1, o2, o3] H Q := by
  refine ⟨a, .dK ka, ha, trivial, fun od => htd od _ ⟨a, od, ka, rfl, upd_same, fun D nD => ?_⟩⟩
  have hA : upd H a (.frz od (.dK ka)) a = some (.frz od (.dK ka)) := upd_same
  have back : ∀ H', (∀ b o, upd H a (.frz od (.dK ka)) b = some o → H' b = some o) → Same H (upd H' a (.dK ka)) := fun H' sk b o e => by
    by_cases eb : b = a
    · subst eb
      rw [upd_same, ← ha, e]
    · rw [upd_ne eb]
      exact sk b o (by rw [upd_ne eb]; exact e)
  have htt' := htt od
  clear htt htd
  generalize upd H a (.frz od (.dK ka)) = H1 at *
  have nDa : D ≠ a := fun e => by rw [e, hA] at nD; cases nD
  let I : Nat → Hp → Prop := fun i H' => (∀ b o, H1 b = some o → H' b = some o) ∧ H' D = some (.dK (parted p ka i))
  refine ⟨fun i m H' => m = ka.length - i ∧ i ≤ ka.length ∧ I i H', ⟨_, rfl, Nat.zero_le _, fun b o e => stay e nD, upd_same⟩, ?_⟩
  rintro i m H' ⟨rfl, hi, sk, hD⟩
  have hA' := sk _ _ hA
  by_cases hlt : i < ka.length
  · refine .inr ⟨⟨hA', hlt⟩, fun H'' => I (i + 1) H'', fun H'' z => ⟨_, by omega, rfl, hlt, z⟩, fun x H'' y => ?_⟩
    obtain ⟨T, k, v, hkv, rfl, nT, rfl⟩ := y
    have nTD : D ≠ T := fun e => by rw [← e, hD] at nT; cases nT
    have sk2 : ∀ b o, H1 b = some o → upd H' T (.tup [kV k, v]) b = some o := fun b o e => stay (sk b o e) nT
    refine ⟨T, _, rfl, SqT.of upd_same, rfl, _, _, rfl, _, _, rfl, rfl, rfl, htt' _ k v _ sk2 ?_⟩
    have hD2 : upd H' T (.tup [kV k, v]) D = some (.dK (parted p ka i)) := stay hD nT
    cases e : p (k, v) with
    | true =>
      refine ifT rfl ⟨_, rfl, _, rfl, _, k, rfl, hD2, Nat.lt_of_le_of_lt (show (parted p ka i).length ≤ 1001 from Nat.le_trans parted_len (by omega)) (by decide), fun b o e2 => ?_, ?_⟩
      · have nb : b ≠ D := fun z => by rw [z, nD] at e2; cases e2
        rw [upd_ne nb]
        exact sk2 b o e2
      · rw [upd_same, parted_put hks nd hkv, parted_succ hkv, if_pos e]
    | false =>
      refine ifF rfl ⟨sk2, ?_⟩
      rw [hD2, parted_succ hkv, if_neg (by rw [e]; exact Bool.false_ne_true)]
  · have ei : i = ka.length := by omega
    subst ei
    refine .inl ⟨⟨hA', Nat.le_refl _⟩, hA', q D _ (back H' sk) ?_⟩
    rw [upd_ne nDa, hD, parted_all]
/-- a dict is read by an int key, locked or not -/
theorem dget_lock {H : Hp} {a b : Addr} {od : Obj} {ka kb : List (Key × V)} {k : Key} (ha : H a = some (.dK ka)) (hb : H b = some (.dK kb)) {H' : Hp} (sk : ∀ c o, upd H a (.frz od (.dK ka)) c = some o → H' c = some o) : DGet H' b (kV k) (valV kb k) := by
  by_cases e : b = a
  · subst e
    rw [ha] at hb
    cases hb
    exact .inl ⟨ka, k, .inr ⟨od, sk _ _ upd_same⟩, rfl, rfl⟩
  · exact .inl ⟨kb, k, .inl (sk _ _ (by rw [upd_ne e]; exact hb)), rfl, rfl⟩
section
variable {P : Program} {w : World} {K : PySem.W.Frag} {mg : Str → Option Value} {base : Heap}
theorem scLo : FnScope ["held", "others", "number", "edge"] ["held", "others"] (defScope (top 29)) := ⟨rfl, rfl, rfl, by decide +kernel, rfl, by decide +kernel, by decide +kernel⟩
theorem ok_left {f : Addr} {fd : FuncData} (F : Fun K "_left_over" "_left_over" (top 29) f fd) : FnOk P w K mg base CX0 1 f fd ["held", "others"] spLeft := by
  refine F.ok scLo (fun vs H Q E h => by obtain ⟨a, b, ka, kb, rfl, _⟩ := h; rfl) (fun cdv A outer s H vs Q E hr h => ?_)
  obtain ⟨a, b, ka, kb, rfl, ha, hb, ⟨ks, hks, nd⟩, l1, q⟩ := h
  have hu1 : (A.deeper (envOfC "_left_over" (defScope (top 29)) s.heap.objs.size f cdv)).units + 1 < cLine := by
    have := hr.un
    omega
  refine ⟨_, pss_one (ps_ret (pe_lock (pe_dc (own := [("number", 2), ("edge", 3)]) (g := gTup K 2 (gCons (gName 2) (gCons (gName 3) gNil))) (tt := tB (tDNotIn (tVar 2) (tVar 1))) rfl scLo.nd (pi_items (pv 0)) (blkOk_by (N := ["held", "others", "number", "edge"]) (sc := defScope (top 29)) (by decide +kernel))
    (fun _ _ _ _ _ => pg_tup rfl (pgs_cons (pg_name (i := 2) scLo.nd rfl (Or.inl rfl)) (pgs_cons (pg_name (i := 3) scLo.nd rfl (Or.inl rfl)) pgs_nil))) (fun _ _ _ _ _ => pts_one (pt_cmp (pc_dnotin hu1 (pv 2) (pv 1)))) (fun _ _ _ _ _ => pv 2) (fun _ _ _ _ _ => pv 3)))), ?_⟩
  refine part_items (p := fun e => !(valV kb e.1).isSome) ha hks nd l1 (fun od R h => ⟨_, rfl, h⟩) (fun od H' k v R sk h => ?_) fun D H' s hD => q D H' s hD
  exact ⟨_, rfl, _, rfl, b, _, rfl, dget_lock ha hb sk, _, rfl, h⟩
end
end Y1
set_option Elab.async false
set_option linter.all false
set_option maxRecDepth 100000
set_option maxHeartbeats 16000000
/-! Figure's __init__ of a Held; __sub__, __and__. -/
namespace Y1
open PySem PySem.Spec PyProof.Rows L2 Nv
/-- what comes of two figures: the dict that the new figure has -/
def spBin (K : PySem.W.Frag) (CF CH CI CT : Addr) (G : List (Key × V) → List (Key × V) → List (Key × V) → Prop) : Sp := fun vs H Q E => ∃ x ka v t b, vs = [.ref x, v] ∧ FigAtL CF H x ka ∧ IntKeys ka ∧ ka.length ≤ 400 ∧ TyX K H v t ∧ PySem.W.kitOne K t (.ref CF) = some b ∧
  (b = false → ∀ dx H', Same H H' → XD H' dx v → E (.ref CI) (some dx) H') ∧
  (b = true → ∃ y kb, v = .ref y ∧ FigAtL CF H y kb ∧ IntKeys kb ∧ kb.length ≤ 400 ∧ ∀ kvs, G ka kb kvs →
    (400 < kvs.length → ∀ dx H', Same H H' → XD H' dx (.int kvs.length) → E (.ref CT) (some dx) H') ∧ (kvs.length ≤ 400 → ∀ z H', Same H H' → FigAt CF H' z kvs → Q (.ref z) H'))
section
variable {P : Program} {w : World} {K : PySem.W.Frag} {mg : Str → Option Value} {base : Heap} {C CI CT CF CH fI : Addr} {fdI : FuncData}
theorem ok_figH {dvs : List V} {kws : List (Str × V)} {f fC : Addr} {fd fdC : FuncData} (F : FunD K "__init__" "Figure.__init__" (defArgs (inClass (top 24) 0)) (defBody (inClass (top 24) 0)) (defScope (inClass (top 24) 0)) dvs kws f fd) (T : Ta mg) (X : Tie K mg C fI) (XT : Ttl K mg CT fI) (Z : Kf K mg CF CH) (hH : PySem.W.kitOne K (.ref CH) (.ref CH) = some true) (cl : PySem.W.findIn K (.ref CH) "__class__" = some (some (.builtin "object.__class__"))) (ob : PySem.W.mroIn K CH (.type "object") = some true)
    (GI : FnOk P w K mg base CX0 1 fI fdI ["self", "value"] (spIni K)) (bI : Binds K fdI ["self", "value"] [])
    (GC : FnOk P w K mg base (L2N.CX P w) 4 fC fdC ["edges"] (spChk K C)) (AC : At K mg "_checked" fC fdC ["edges"]) :
    FnOk P w K mg base (L2N.CX P w) 5 f fd ["self", "edges"] (spFigH CF CH CT) := by
  refine okND F scFi (fun vs H Q E h => by obtain ⟨x, dx, y, dy, h, kvs, rfl, _⟩ := h; rfl) (fun cdv A outer s H vs Q E hr h tk => ?_)
  obtain ⟨x, dx, y, dy, h, kvs, rfl, hx, hy, hk, qL, qS⟩ := h
  obtain ⟨tM, hM⟩ := Z.most
  refine ⟨_, (pss_cons (ps_set (i := 2) scFi.nd rfl (Or.inl rfl) (pe_ifExp (pt_val (pe_callB call_isi (by rfl) T.isi (by decide +kernel) (pa_cons (pv 1) (pa_cons (pe_glob (v := .ref CH) rfl Z.gH rfl) pa_nil)))) (pe_fld (pv 1) (by rfl)) (pe_callS GC hr rfl AC.g AC.k AC.b (L2N.passAt tk) (pa_cons (pv 1) pa_nil))))
    (pss_cons (ps_if (pt_cmpR op_gt (pe_callB call_lenD (by rfl) T.len (by decide +kernel) (pa_cons (pv 2) pa_nil)) (pe_glob (v := .int 400) rfl hM ⟨_, rfl⟩) (nomark _)) (pss_one (L2N.ps_raise rfl tk (pmk_mkx XT.xc.mx GI (hr.mono (by decide)) bI rfl XT.gl (pe_callB call_lenD (by rfl) T.len (by decide +kernel) (pa_cons (pv 2) pa_nil))))) pss_nil)
    (pss_cons (ps_fld (pv 0) (pe_tupVals rfl (by rfl) T.tup (pv 2)) (by rfl))
    (pss_cons (ps_fld (pv 0) (pv 2) (by rfl)) (pss_cons (ps_fld (pv 0) pe_non (by rfl)) (pss_cons (ps_fld (pv 0) pe_non (by rfl)) (pss_one (ps_fld (pv 0) pe_non (by rfl))))))))), ?_⟩
  refine ⟨_, rfl, _, .ref CH, .ref CH, .ref CH, true, rfl, .own _, .base (.ins hy Z.clsH cl Z.gs Z.tk ob), hH, _, rfl, ?_⟩
  refine ⟨_, rfl, y, CH, dy, _, .ref h, rfl, hy, Z.clsH, Z.nB, rfl, ?_⟩
  refine ⟨_, rfl, h, kvs, rfl, hk, _, _, rfl, rfl, _, rfl, ?_⟩
  by_cases big : 400 < kvs.length
  · refine ifT (decide_eq_true (by omega)) ?_
    exact ⟨_, rfl, h, kvs, rfl, hk, fun dy n nd => qL big dy _ (fun b o e => stay e nd) XD.of⟩
  · refine ifF (decide_eq_false (by omega)) ?_
    refine ⟨_, rfl, h, kvs, rfl, hk, fun tt nt => ⟨_, rfl, x, CF, dx, [], rfl, stay hx nt, Z.cls, Z.nE, (by decide), ?_⟩⟩
    have ne : x ≠ tt := ne_of_none hx nt
    have ne2 : h ≠ x := fun e => by rw [e, hx] at hk; cases hk
    have ne3 : h ≠ tt := ne_of_none hk nt
    refine ⟨_, rfl, _, rfl, x, CF, dx, _, rfl, upd_same, Z.cls, Z.nH, (by show 1 < 1000; decide), ?_⟩
    refine ⟨_, rfl, x, CF, dx, _, rfl, upd_same, Z.cls, Z.nL, (by show 2 < 1000; decide), ?_⟩
    refine ⟨_, rfl, x, CF, dx, _, rfl, upd_same, Z.cls, Z.nF, (by show 3 < 1000; decide), ?_⟩
    refine ⟨_, rfl, x, CF, dx, _, rfl, upd_same, Z.cls, Z.nG, (by show 4 < 1000; decide), ?_⟩
    refine qS (by omega) _ (fun c o nc e => ?_) ⟨dx, tt, h, upd_same, ?_, ?_⟩
    · rw [upd_ne nc, upd_ne nc, upd_ne nc, upd_ne nc, upd_ne nc]
      exact stay e nt
    · rw [upd_ne ne.symm, upd_ne ne.symm, upd_ne ne.symm, upd_ne ne.symm, upd_ne ne.symm]
      exact upd_same
    · rw [upd_ne ne2, upd_ne ne2, upd_ne ne2, upd_ne ne2, upd_ne ne2]
      exact stay hk nt
/-- what is wanted of the dict that the new figure gets -/
def Res (CF CT : Addr) (H : Hp) (Q : VK) (E : XK) (kvs : List (Key × V)) : Prop := (400 < kvs.length → ∀ dx H', Same H H' → XD H' dx (.int kvs.length) → E (.ref CT) (some dx) H') ∧ (kvs.length ≤ 400 → ∀ z H', Same H H' → FigAt CF H' z kvs → Q (.ref z) H')
theorem fin_make {H H1 : Hp} {Q : VK} {E : XK} {p : Addr} {kvs : List (Key × V)} (s1 : Same H H1) (hp : H1 p = some (.dK kvs)) (r : Res CF CT H Q E kvs) :
    ∀ y dx, H1 y = none → H1 dx = none → dx ≠ y → spHeld CH [.ref y, .ref p] (upd (upd H1 dx (.own y)) y (.ins CH dx [])) (fun v H2 => v = .non ∧ ∀ z dz, H2 z = none → H2 dz = none → dz ≠ z → spFigH CF CH CT [.ref z, .ref y] (upd (upd H2 dz (.own z)) z (.ins CF dz [])) (fun v H3 => v = .non ∧ Q (.ref z) H3) E) E0 := by
  intro y dx ny ndx ne
  refine ⟨y, dx, .ref p, rfl, upd_same, rfl, fun z dz nz ndz nez => ?_⟩
  rw [upd_upd] at nz ndz ⊢
  have e1 : Same H1 (upd (upd H1 dx (.own y)) y (.ins CH dx [("by_number", .ref p)])) := fun b o e => by
    rw [upd_ne (fun z => by rw [z, ny] at e; cases e), upd_ne (fun z => by rw [z, ndx] at e; cases e)]
    exact e
  have hy : upd (upd H1 dx (.own y)) y (.ins CH dx [("by_number", .ref p)]) y = some (.ins CH dx [("by_number", .ref p)]) := upd_same
  have hp2 := e1 _ _ hp
  generalize upd (upd H1 dx (.own y)) y (.ins CH dx [("by_number", .ref p)]) = H2 at *
  have e2 : Same H2 (upd (upd H2 dz (.own z)) z (.ins CF dz [])) := fun b o e => by
    rw [upd_ne (fun w => by rw [w, nz] at e; cases e), upd_ne (fun w => by rw [w, ndz] at e; cases e)]
    exact e
  have e02 : Same H (upd (upd H2 dz (.own z)) z (.ins CF dz [])) := fun b o e => e2 _ _ (e1 _ _ (s1 _ _ e))
  have nzH : ∀ b o, H b = some o → b ≠ z := fun b o e w => by rw [w] at e; rw [e1 _ _ (s1 _ _ e)] at nz; cases nz
  refine ⟨z, dz, y, dx, p, kvs, rfl, upd_same, e2 _ _ hy, e2 _ _ hp2, fun big d H' s' xd => r.1 big d H' (fun b o e => s' _ _ (e02 _ _ e)) xd, fun small H' s' fg => ⟨rfl, r.2 small z H' (fun b o e => s' b o (nzH b o e) (e02 _ _ e)) fg⟩⟩
abbrev sSub : Stmt := inClass (top 24) 12
theorem scSub : FnScope ["self", "other"] ["self", "other"] (defScope sSub) := ⟨rfl, rfl, rfl, by decide +kernel, rfl, by decide +kernel, by decide +kernel⟩
theorem ok_sub {f fK fL fF fHi : Addr} {fd fdK fdL fdF fdH : FuncData} (F : Fun K "__sub__" "Figure.__sub__" sSub f fd) (Z : Kf K mg CF CH)
    (MF : Mk K CF fF) (GF : FnOk P w K mg base (L2N.CX P w) 5 fF fdF ["self", "edges"] (spFigH CF CH CT)) (bF : Binds K fdF ["self", "edges"] [])
    (MH : Mk K CH fHi) (GH : FnOk P w K mg base CX0 1 fHi fdH ["self", "by_number"] (spHeld CH)) (bH : Binds K fdH ["self", "by_number"] [])
    (GK : FnOk P w K mg base (L2N.CX P w) 4 fK fdK ["value"] (spCf K CF CI)) (AK : At K mg "_check_figure" fK fdK ["value"]) (GL : FnOk P w K mg base CX0 1 fL fdL ["held", "others"] spLeft) (AL : At K mg "_left_over" fL fdL ["held", "others"]) :
    FnOk P w K mg base (L2N.CX P w) 7 f fd ["self", "other"] (spBin K CF CH CI CT fun ka kb kvs => kvs = leftK ka kb) := by
  refine okN F scSub (fun vs H Q E h => by obtain ⟨x, ka, v, t, b, rfl, _⟩ := h; rfl) (fun cdv A outer s H vs Q E hr h tk => ?_)
  obtain ⟨x, ka, v, t, b, rfl, ⟨dx, tt, hh, lv, h1, h2, h3⟩, ik, l1, ty, kt, qf, qt⟩ := h
  refine ⟨_, pss_cons (ps_expr (pe_callS GK (hr.mono (by decide)) rfl AK.g AK.k AK.b (L2N.passAt tk) (pa_cons (pv 1) pa_nil)))
    (pss_one (ps_ret (pe_makeS MF GF (hr.mono (by decide)) rfl Z.gF bF (L2N.passAt tk) (pa_cons (pe_make MH GH (hr.mono (by decide)) rfl Z.gH bH .nil pass0 (pa_cons (pe_call GL (hr.mono (by decide)) rfl AL.g AL.k AL.b .nil pass0 (pa_cons (pe_fld (pv 0) (by rfl)) (pa_cons (pe_fld (pv 1) (by rfl)) pa_nil))) pa_nil)) pa_nil)))), ?_⟩
  refine ⟨_, rfl, v, t, b, rfl, ty, kt, qf, fun hb => ?_⟩
  obtain ⟨y, kb, rfl, ⟨dy, tt2, hh2, lv2, g1, g2, g3⟩, ik2, l2, res⟩ := qt hb
  refine ⟨_, rfl, x, CF, dx, _, .ref hh, rfl, h1, Z.cls, Z.nH, rfl, _, rfl, y, CF, dy, _, .ref hh2, rfl, g1, Z.cls, Z.nH, rfl, ?_⟩
  refine ⟨hh, hh2, ka, kb, rfl, h3, g3, ik, by omega, fun p H' s1 hp => ?_⟩
  exact fin_make s1 hp (res _ rfl)
end
end Y1
set_option Elab.async false
set_option linter.all false
set_option maxRecDepth 100000
set_option maxHeartbeats 16000000
/-! __and__, __or__, __xor__. -/
namespace Y1
open PySem PySem.Spec PyProof.Rows L2 Nv
theorem intKeys_merge : ∀ (more kvs : List (Key × V)), IntKeys kvs → (∀ e ∈ more, ∃ n : Int, e.1 = Sum.inl n) → IntKeys (mergeK kvs more)
  | [], _, h, _ => h
  | e :: r, kvs, h, hm => by
    obtain ⟨n, en⟩ := hm e List.mem_cons_self
    show IntKeys (mergeK (putK kvs e.1 e.2) r)
    rw [en]
    exact intKeys_merge r _ (putK_intKeys h) fun e' he => hm e' (List.mem_cons_of_mem _ he)
theorem intKeys_nil : IntKeys [] := ⟨[], rfl, List.nodup_nil⟩
theorem IntKeys.int {kvs : List (Key × V)} (h : IntKeys kvs) : ∀ e ∈ kvs, ∃ n : Int, e.1 = Sum.inl n := by
  obtain ⟨ks, hk, _⟩ := h
  intro e he
  have m : e.1 ∈ kvs.map (·.1) := List.mem_map_of_mem he
  rw [hk] at m
  obtain ⟨n, _, en⟩ := List.mem_map.mp m
  exact ⟨n, en.symm⟩
theorem mergeK_nil {kvs : List (Key × V)} (h : IntKeys kvs) : mergeK [] kvs = kvs := by
  obtain ⟨ks, hk, nd⟩ := h
  have nd2 : (kvs.map (·.1)).Nodup := by
    rw [hk]
    exact List.Pairwise.map Sum.inl (fun a b ne e => ne (Sum.inl.inj e)) nd
  have gen : ∀ (more acc : List (Key × V)), ((acc ++ more).map (·.1)).Nodup → mergeK acc more = acc ++ more := by
    intro more
    induction more with
    | nil => intro acc _; exact (List.append_nil acc).symm
    | cons e r ih =>
      intro acc hn
      have fresh : valV acc e.1 = none := by
        cases q : valV acc e.1 with
        | none => rfl
        | some u =>
          have m : e.1 ∈ acc.map (·.1) := valV_in q
          rw [List.map_append, List.nodup_append] at hn
          exact absurd rfl (hn.2.2 e.1 m e.1 (by rw [List.map_cons]; exact List.mem_cons_self))
      show mergeK (putK acc e.1 e.2) r = _
      rw [putK_new _ fresh, ih _ (by rw [List.append_assoc]; exact hn), List.append_assoc]
      rfl
  exact gen kvs [] nd2
theorem intKeys_filter {kvs : List (Key × V)} {p : Key × V → Bool} (h : IntKeys kvs) : IntKeys (kvs.filter p) := by
  obtain ⟨ks, hk, nd⟩ := h
  have hi := IntKeys.int ⟨ks, hk, nd⟩
  have nd2 : (kvs.map (·.1)).Nodup := by
    rw [hk]
    exact List.Pairwise.map Sum.inl (fun a b ne e => ne (Sum.inl.inj e)) nd
  have sub : ((kvs.filter p).map (·.1)).Nodup := (List.Sublist.map _ List.filter_sublist).nodup nd2
  have all : ∀ l : List (Key × V), (∀ e ∈ l, ∃ n : Int, e.1 = Sum.inl n) → (l.map (·.1)).Nodup → IntKeys l := by
    intro l
    induction l with
    | nil => intro _ _; exact intKeys_nil
    | cons e r ih =>
      intro h1 h2
      rw [List.map_cons, List.nodup_cons] at h2
      obtain ⟨ks', hk', nd'⟩ := ih (fun e' he => h1 e' (List.mem_cons_of_mem _ he)) h2.2
      obtain ⟨n, en⟩ := h1 e List.mem_cons_self
      refine ⟨n :: ks', by rw [List.map_cons, List.map_cons, hk', en], List.nodup_cons.mpr ⟨fun hn => h2.1 ?_, nd'⟩⟩
      rw [hk', en]
      exact List.mem_map_of_mem hn
  exact all _ (fun e he => hi e (List.mem_filter.mp he).1) sub
section
variable {P : Program} {w : World} {K : PySem.W.Frag} {mg : Str → Option Value} {base : Heap} {C CI CT CF CH fI : Addr} {fdI : FuncData}
abbrev sAnd : Stmt := inClass (top 24) 11
abbrev sOr : Stmt := inClass (top 24) 10
abbrev sXor : Stmt := inClass (top 24) 13
theorem scAnd : FnScope ["self", "other", "number", "edge"] ["self", "other"] (defScope sAnd) := ⟨rfl, rfl, rfl, by decide +kernel, rfl, by decide +kernel, by decide +kernel⟩
theorem ok_and {f fK fF fHi : Addr} {fd fdK fdF fdH : FuncData} (F : Fun K "__and__" "Figure.__and__" sAnd f fd) (Z : Kf K mg CF CH)
    (MF : Mk K CF fF) (GF : FnOk P w K mg base (L2N.CX P w) 5 fF fdF ["self", "edges"] (spFigH CF CH CT)) (bF : Binds K fdF ["self", "edges"] [])
    (MH : Mk K CH fHi) (GH : FnOk P w K mg base CX0 1 fHi fdH ["self", "by_number"] (spHeld CH)) (bH : Binds K fdH ["self", "by_number"] [])
    (GK : FnOk P w K mg base (L2N.CX P w) 4 fK fdK ["value"] (spCf K CF CI)) (AK : At K mg "_check_figure" fK fdK ["value"]) :
    FnOk P w K mg base (L2N.CX P w) 7 f fd ["self", "other"] (spBin K CF CH CI CT fun ka kb kvs => kvs = bothK ka kb) := by
  refine okN F scAnd (fun vs H Q E h => by obtain ⟨x, ka, v, t, b, rfl, _⟩ := h; rfl) (fun cdv A outer s H vs Q E hr h tk => ?_)
  obtain ⟨x, ka, v, t, b, rfl, ⟨dx, tt, hh, lv, h1, h2, h3⟩, ik, l1, ty, kt, qf, qt⟩ := h
  have hu1 : (A.deeper (envOfC "Figure.__and__" (defScope sAnd) s.heap.objs.size f cdv)).units + 1 < cLine := by
    have := hr.un
    omega
  refine ⟨_, pss_cons (ps_expr (pe_callS GK (hr.mono (by decide)) rfl AK.g AK.k AK.b (L2N.passAt tk) (pa_cons (pv 1) pa_nil)))
    (pss_one (ps_ret (pe_makeS MF GF (hr.mono (by decide)) rfl Z.gF bF (L2N.passAt tk) (pa_cons (pe_make MH GH (hr.mono (by decide)) rfl Z.gH bH .nil pass0 (pa_cons
      (pe_lock (pe_dc (own := [("number", 2), ("edge", 3)]) (g := gTup K 2 (gCons (gName 2) (gCons (gName 3) gNil))) (tt := tB (tDIn (tVar 2) (tFld K (tVar 1) "_held"))) rfl scAnd.nd (pi_items (pe_fld (pv 0) (by rfl))) (blkOk_by (N := ["self", "other", "number", "edge"]) (sc := defScope sAnd) (by decide +kernel))
        (fun _ _ _ _ _ => pg_tup rfl (pgs_cons (pg_name (i := 2) scAnd.nd rfl (Or.inl rfl)) (pgs_cons (pg_name (i := 3) scAnd.nd rfl (Or.inl rfl)) pgs_nil))) (fun _ _ _ _ _ => pts_one (pt_cmp (pc_din hu1 (pv 2) (pe_fld (pv 1) (by rfl))))) (fun _ _ _ _ _ => pv 2) (fun _ _ _ _ _ => pv 3))) pa_nil)) pa_nil)))), ?_⟩
  refine ⟨_, rfl, v, t, b, rfl, ty, kt, qf, fun hb => ?_⟩
  obtain ⟨y, kb, rfl, ⟨dy, tt2, hh2, lv2, g1, g2, g3⟩, ik2, l2, res⟩ := qt hb
  refine part_items (p := fun e => (valV kb e.1).isSome) h3 ik.choose_spec.1 ik.choose_spec.2 (by omega) (fun od R h => ?_) (fun od H' k v R sk h => ?_) fun D H' s1 hD => ?_
  · have ne : x ≠ hh := fun e => by rw [e, h3] at h1; cases h1
    exact ⟨_, rfl, x, CF, dx, _, .ref hh, rfl, by rw [upd_ne ne]; exact h1, Z.cls, Z.nH, rfl, h⟩
  · have ne : y ≠ hh := fun e => by rw [e, h3] at g1; cases g1
    exact ⟨_, rfl, _, rfl, y, CF, dy, _, .ref hh2, rfl, sk _ _ (by rw [upd_ne ne]; exact g1), Z.cls, Z.nH, rfl, hh2, _, rfl, dget_lock h3 g3 sk, _, rfl, h⟩
  · exact fin_make s1 hD (res _ rfl)
theorem scOr : FnScope ["self", "other"] ["self", "other"] (defScope sOr) := ⟨rfl, rfl, rfl, by decide +kernel, rfl, by decide +kernel, by decide +kernel⟩
theorem ok_or {f fK fA fF fHi : Addr} {fd fdK fdA fdF fdH : FuncData} (F : Fun K "__or__" "Figure.__or__" sOr f fd) (Z : Kf K mg CF CH)
    (MF : Mk K CF fF) (GF : FnOk P w K mg base (L2N.CX P w) 5 fF fdF ["self", "edges"] (spFigH CF CH CT)) (bF : Binds K fdF ["self", "edges"] [])
    (MH : Mk K CH fHi) (GH : FnOk P w K mg base CX0 1 fHi fdH ["self", "by_number"] (spHeld CH)) (bH : Binds K fdH ["self", "by_number"] [])
    (GK : FnOk P w K mg base (L2N.CX P w) 4 fK fdK ["value"] (spCf K CF CI)) (AK : At K mg "_check_figure" fK fdK ["value"]) (GA : FnOk P w K mg base CX0 1 fA fdA ["held"] spAsc) (AA : At K mg "_ascending" fA fdA ["held"]) :
    FnOk P w K mg base (L2N.CX P w) 7 f fd ["self", "other"] (spBin K CF CH CI CT fun ka kb kvs => kvs.Perm (mergeK ka kb) ∧ Srt kvs) := by
  refine okN F scOr (fun vs H Q E h => by obtain ⟨x, ka, v, t, b, rfl, _⟩ := h; rfl) (fun cdv A outer s H vs Q E hr h tk => ?_)
  obtain ⟨x, ka, v, t, b, rfl, ⟨dx, tt, hh, lv, h1, h2, h3⟩, ik, l1, ty, kt, qf, qt⟩ := h
  refine ⟨_, pss_cons (ps_expr (pe_callS GK (hr.mono (by decide)) rfl AK.g AK.k AK.b (L2N.passAt tk) (pa_cons (pv 1) pa_nil)))
    (pss_one (ps_ret (pe_makeS MF GF (hr.mono (by decide)) rfl Z.gF bF (L2N.passAt tk) (pa_cons (pe_make MH GH (hr.mono (by decide)) rfl Z.gH bH .nil pass0 (pa_cons (pe_call GA (hr.mono (by decide)) rfl AA.g AA.k AA.b .nil pass0 (pa_cons (pe_merge (pe_fld (pv 0) (by rfl)) (pe_fld (pv 1) (by rfl))) pa_nil)) pa_nil)) pa_nil)))), ?_⟩
  refine ⟨_, rfl, v, t, b, rfl, ty, kt, qf, fun hb => ?_⟩
  obtain ⟨y, kb, rfl, ⟨dy, tt2, hh2, lv2, g1, g2, g3⟩, ik2, l2, res⟩ := qt hb
  refine fun p np => ⟨_, rfl, x, CF, dx, _, .ref hh, rfl, stay h1 np, Z.cls, Z.nH, rfl, hh, ka, rfl, ne_of_none h3 np, upd_same, stay h3 np, by omega, ?_⟩
  rw [upd_upd, mergeK_nil ik]
  refine ⟨_, rfl, y, CF, dy, _, .ref hh2, rfl, stay g1 np, Z.cls, Z.nH, rfl, hh2, kb, rfl, ne_of_none g3 np, upd_same, stay g3 np, by omega, ?_⟩
  rw [upd_upd]
  obtain ⟨ks, hks, nd⟩ := intKeys_merge kb ka ik ik2.int
  have lm := length_mergeK kb ka
  exact ⟨p, _, ks, rfl, upd_same, hks, nd, by omega, fun h' kvs H' s1 hk pm st => fin_make (fun b o e => s1 _ _ (stay e np)) hk (res _ ⟨pm, st⟩)⟩
theorem scXor : FnScope ["self", "other", "mine", "others"] ["self", "other"] (defScope sXor) := ⟨rfl, rfl, rfl, by decide +kernel, rfl, by decide +kernel, by decide +kernel⟩
theorem ok_xor {f fK fA fL fF fHi : Addr} {fd fdK fdA fdL fdF fdH : FuncData} (F : Fun K "__xor__" "Figure.__xor__" sXor f fd) (Z : Kf K mg CF CH)
    (MF : Mk K CF fF) (GF : FnOk P w K mg base (L2N.CX P w) 5 fF fdF ["self", "edges"] (spFigH CF CH CT)) (bF : Binds K fdF ["self", "edges"] [])
    (MH : Mk K CH fHi) (GH : FnOk P w K mg base CX0 1 fHi fdH ["self", "by_number"] (spHeld CH)) (bH : Binds K fdH ["self", "by_number"] [])
    (GK : FnOk P w K mg base (L2N.CX P w) 4 fK fdK ["value"] (spCf K CF CI)) (AK : At K mg "_check_figure" fK fdK ["value"]) (GA : FnOk P w K mg base CX0 1 fA fdA ["held"] spAsc) (AA : At K mg "_ascending" fA fdA ["held"])
    (GL : FnOk P w K mg base CX0 1 fL fdL ["held", "others"] spLeft) (AL : At K mg "_left_over" fL fdL ["held", "others"]) :
    FnOk P w K mg base (L2N.CX P w) 7 f fd ["self", "other"] (spBin K CF CH CI CT fun ka kb kvs => kvs.Perm (mergeK (leftK ka kb) (leftK kb ka)) ∧ Srt kvs) := by
  refine okN F scXor (fun vs H Q E h => by obtain ⟨x, ka, v, t, b, rfl, _⟩ := h; rfl) (fun cdv A outer s H vs Q E hr h tk => ?_)
  obtain ⟨x, ka, v, t, b, rfl, ⟨dx, tt, hh, lv, h1, h2, h3⟩, ik, l1, ty, kt, qf, qt⟩ := h
  refine ⟨_, pss_cons (ps_expr (pe_callS GK (hr.mono (by decide)) rfl AK.g AK.k AK.b (L2N.passAt tk) (pa_cons (pv 1) pa_nil)))
    (pss_cons (ps_set (i := 2) scXor.nd rfl (Or.inl rfl) (pe_call GL (hr.mono (by decide)) rfl AL.g AL.k AL.b .nil pass0 (pa_cons (pe_fld (pv 0) (by rfl)) (pa_cons (pe_fld (pv 1) (by rfl)) pa_nil))))
    (pss_cons (ps_set (i := 3) scXor.nd rfl (Or.inl rfl) (pe_call GL (hr.mono (by decide)) rfl AL.g AL.k AL.b .nil pass0 (pa_cons (pe_fld (pv 1) (by rfl)) (pa_cons (pe_fld (pv 0) (by rfl)) pa_nil))))
    (pss_one (ps_ret (pe_makeS MF GF (hr.mono (by decide)) rfl Z.gF bF (L2N.passAt tk) (pa_cons (pe_make MH GH (hr.mono (by decide)) rfl Z.gH bH .nil pass0 (pa_cons (pe_call GA (hr.mono (by decide)) rfl AA.g AA.k AA.b .nil pass0 (pa_cons (pe_merge (pv 2) (pv 3)) pa_nil)) pa_nil)) pa_nil)))))), ?_⟩
  refine ⟨_, rfl, v, t, b, rfl, ty, kt, qf, fun hb => ?_⟩
  obtain ⟨y, kb, rfl, ⟨dy, tt2, hh2, lv2, g1, g2, g3⟩, ik2, l2, res⟩ := qt hb
  refine ⟨_, rfl, x, CF, dx, _, .ref hh, rfl, h1, Z.cls, Z.nH, rfl, _, rfl, y, CF, dy, _, .ref hh2, rfl, g1, Z.cls, Z.nH, rfl, ?_⟩
  refine ⟨hh, hh2, ka, kb, rfl, h3, g3, ik, by omega, fun p1 H1 s1 hp1 => ?_⟩
  refine ⟨_, rfl, y, CF, dy, _, .ref hh2, rfl, s1 _ _ g1, Z.cls, Z.nH, rfl, _, rfl, x, CF, dx, _, .ref hh, rfl, s1 _ _ h1, Z.cls, Z.nH, rfl, ?_⟩
  refine ⟨hh2, hh, kb, ka, rfl, s1 _ _ g3, s1 _ _ h3, ik2, by omega, fun p2 H2 s2 hp2 => ?_⟩
  have i1 : IntKeys (leftK ka kb) := intKeys_filter ik
  have i2 : IntKeys (leftK kb ka) := intKeys_filter ik2
  have q1 : (leftK ka kb).length ≤ ka.length := List.length_filter_le _ _
  have q2 : (leftK kb ka).length ≤ kb.length := List.length_filter_le _ _
  have hp1' := s2 _ _ hp1
  refine fun p np => ⟨_, rfl, p1, leftK ka kb, rfl, ne_of_none hp1' np, upd_same, stay hp1' np, by omega, ?_⟩
  rw [upd_upd, mergeK_nil i1]
  refine ⟨_, rfl, p2, leftK kb ka, rfl, ne_of_none hp2 np, upd_same, stay hp2 np, by omega, ?_⟩
  rw [upd_upd]
  obtain ⟨ks, hks, nd⟩ := intKeys_merge _ _ i1 i2.int
  have lm := length_mergeK (leftK kb ka) (leftK ka kb)
  exact ⟨p, _, ks, rfl, upd_same, hks, nd, by omega, fun h' kvs H' s3 hk pm st => fin_make (fun b o e => s3 _ _ (stay (s2 _ _ (s1 _ _ e)) np)) hk (res _ ⟨pm, st⟩)⟩
end
end Y1
set_option Elab.async false
set_option linter.all false
set_option maxRecDepth 100000
set_option maxHeartbeats 16000000
/-! Dicts of edges by number, and the lists of edges that they stand for. -/
namespace Y1
open PySem PySem.Spec PyProof.Rows L2 Nv
theorem srt_asc {es : List Eg} (ed : ∀ e ∈ es, edB e = true) (nd : es.Nodup) : Asc (srt es) := by
  have pw : (srt es).Pairwise fun a b => PySem.W.dataLe false eP a b = true := (PySem.W.sort_pairwise (PySem.W.sortLe_total _ _ _) es).imp fun h => h
  have nd2 : (srt es).Nodup := (srt_perm es).nodup_iff.mpr nd
  have both := pw.and nd2
  refine List.Pairwise.imp_of_mem (R := fun a b => PySem.W.dataLe false eP a b = true ∧ a ≠ b) (fun {a b} ha hb h => ?_) both
  have ea := ed a ((srt_perm es).mem_iff.mp ha)
  have eb := ed b ((srt_perm es).mem_iff.mp hb)
  rcases Int.lt_trichotomy (enum a) (enum b) with c | c | c
  · exact c
  · exact absurd (enum_inj ea eb c) h.2
  · have l := eP_lt eb ea c
    have z : (!PySem.W.dataLt (eP b) (eP a)) = true := h.1
    rw [l] at z
    cases z
theorem asc_nodup {es : List Eg} (h : Asc es) : es.Nodup := h.imp fun l e => by rw [e] at l; omega
theorem inl_list : ∀ {a b : List Int}, a.map (Sum.inl : Int → Key) = b.map Sum.inl → a = b
  | [], [], _ => rfl
  | [], _ :: _, e => by cases e
  | _ :: _, [], e => by cases e
  | x :: a, y :: b, e => by
    rw [List.map_cons, List.map_cons, List.cons.injEq] at e
    rw [Sum.inl.inj e.1, inl_list e.2]
/-- an entry stands for an edge -/
def Ent (H : Hp) (p : Key × V) (e : Eg) : Prop := p.1 = Sum.inl (enum e) ∧ DV H p.2 (eP e)
abbrev EntL (H : Hp) : List (Key × V) → List Eg → Prop := Paired (Ent H)
def lessL (a b : List Eg) : List Eg := a.filter fun e => !decide (e ∈ b)
def commL (a b : List Eg) : List Eg := a.filter fun e => decide (e ∈ b)
section
variable {H : Hp}
theorem ent_has : ∀ {kb : List (Key × V)} {es : List Eg}, EntL H kb es → (∀ e ∈ es, edB e = true) → ∀ {e : Eg}, edB e = true → (valV kb (Sum.inl (enum e))).isSome = decide (e ∈ es)
  | _, _, .nil, _, e, _ => by simp [valV]
  | _, _, .cons (a := p) (b := x) (l₁ := kb) (l₂ := es) h t, ed, e, he => by
    have ih := ent_has t (fun y hy => ed y (List.mem_cons_of_mem _ hy)) he
    by_cases c : enum x = enum e
    · have := enum_inj (ed x List.mem_cons_self) he c
      subst this
      rw [valV_pos h.1]
      simp
    · rw [valV_neg (fun z => c (Sum.inl.inj (h.1.symm.trans z))), ih]
      have ne : e ≠ x := fun z => c (by rw [z])
      simp [ne]
theorem ent_filter {q : Key × V → Bool} {r : Eg → Bool} : ∀ {ka : List (Key × V)} {es : List Eg}, EntL H ka es → (∀ p e, e ∈ es → Ent H p e → q p = r e) → EntL H (ka.filter q) (es.filter r)
  | _, _, .nil, _ => .nil
  | _, _, .cons (a := p) (b := x) (l₁ := ka) (l₂ := es) h t, m => by
    have ih := ent_filter t fun p' e' he hp => m p' e' (List.mem_cons_of_mem _ he) hp
    have e := m p x List.mem_cons_self h
    rw [List.filter_cons, List.filter_cons, e]
    cases r x with
    | true => exact .cons h ih
    | false => exact ih
theorem ent_snoc : ∀ {ka : List (Key × V)} {es : List Eg}, EntL H ka es → ∀ {p : Key × V} {e : Eg}, Ent H p e → EntL H (ka ++ [p]) (es ++ [e])
  | _, _, .nil, _, _, h => .cons h .nil
  | _, _, .cons h t, _, _, k => .cons h (ent_snoc t k)
theorem ent_repl {e : Eg} {v : V} (hv : DV H v (eP e)) (he : edB e = true) : ∀ {ka : List (Key × V)} {es : List Eg}, EntL H ka es → (∀ x ∈ es, edB x = true) → EntL H (ka.map fun kv => if kv.1 = Sum.inl (enum e) then (kv.1, v) else kv) es
  | _, _, .nil, _ => .nil
  | _, _, .cons (a := p) (b := x) h t, ed => by
    rw [List.map_cons]
    refine .cons ?_ (ent_repl hv he t fun y hy => ed y (List.mem_cons_of_mem _ hy))
    split
    · rename_i z
      have := enum_inj (ed x List.mem_cons_self) he (Sum.inl.inj (h.1.symm.trans z))
      subst this
      exact ⟨h.1, hv⟩
    · exact h
theorem ent_put {ka : List (Key × V)} {es : List Eg} (h : EntL H ka es) (ed : ∀ x ∈ es, edB x = true) {e : Eg} {v : V} (he : edB e = true) (hv : DV H v (eP e)) : EntL H (putK ka (Sum.inl (enum e)) v) (if e ∈ es then es else es ++ [e]) := by
  have hs := ent_has h ed he
  unfold putK
  rw [valV_any, hs]
  by_cases m : e ∈ es
  · rw [if_pos (decide_eq_true m), if_pos m]
    exact ent_repl hv he h ed
  · rw [if_neg (by rw [decide_eq_false m]; exact Bool.false_ne_true), if_neg m]
    exact ent_snoc h ⟨rfl, hv⟩
theorem ent_merge : ∀ {kb : List (Key × V)} {e2 : List Eg}, EntL H kb e2 → (∀ x ∈ e2, edB x = true) → e2.Nodup → ∀ {ka : List (Key × V)} {e1 : List Eg}, EntL H ka e1 → (∀ x ∈ e1, edB x = true) → EntL H (mergeK ka kb) (e1 ++ lessL e2 e1)
  | _, _, .nil, _, _, ka, e1, h, _ => by
    show EntL H ka (e1 ++ [])
    rw [List.append_nil]
    exact h
  | _, _, .cons (a := p) (b := x) (l₁ := kb) (l₂ := e2) hx t, ed, nd, ka, e1, h, ed1 => by
    have ex := ed x List.mem_cons_self
    have nd2 := List.nodup_cons.mp nd
    have st := ent_put h ed1 ex hx.2
    show EntL H (mergeK (putK ka p.1 p.2) kb) _
    rw [hx.1]
    by_cases m : x ∈ e1
    · rw [if_pos m] at st
      have := ent_merge t (fun y hy => ed y (List.mem_cons_of_mem _ hy)) nd2.2 st ed1
      have e : lessL (x :: e2) e1 = lessL e2 e1 := by
        unfold lessL
        rw [List.filter_cons, if_neg (by simp [m])]
      rw [e]
      exact this
    · rw [if_neg m] at st
      have := ent_merge t (fun y hy => ed y (List.mem_cons_of_mem _ hy)) nd2.2 st (fun y hy => by
        rcases List.mem_append.mp hy with z | z
        · exact ed1 y z
        · rw [List.mem_singleton.mp z]; exact ex)
      have e : e1 ++ lessL (x :: e2) e1 = (e1 ++ [x]) ++ lessL e2 (e1 ++ [x]) := by
        unfold lessL
        rw [List.filter_cons, if_pos (by simp [m]), List.append_assoc]
        refine congrArg (e1 ++ ·) (congrArg (x :: ·) (List.filter_congr fun y hy => ?_))
        have ne : y ≠ x := fun z => nd2.1 (z ▸ hy)
        simp [ne]
      rw [e]
      exact this
theorem ent_perm {k1 k2 : List (Key × V)} (p : k1.Perm k2) : ∀ {es : List Eg}, EntL H k2 es → ∃ es', es'.Perm es ∧ EntL H k1 es' := by
  induction p with
  | nil => intro es h; exact ⟨es, List.Perm.refl _, h⟩
  | cons x _ ih =>
    intro es h
    cases h with
    | cons h t =>
      obtain ⟨es', pm, k⟩ := ih t
      exact ⟨_ :: es', pm.cons _, .cons h k⟩
  | swap x y l =>
    intro es h
    cases h with
    | cons h t =>
      cases t with
      | cons h2 t2 => exact ⟨_, List.Perm.swap _ _ _, .cons h2 (.cons h t2)⟩
  | trans _ _ ih1 ih2 =>
    intro es h
    obtain ⟨e1, p1, k1⟩ := ih2 h
    obtain ⟨e2, p2, k2⟩ := ih1 k1
    exact ⟨e2, p2.trans p1, k2⟩
theorem ent_keys : ∀ {ka : List (Key × V)} {es : List Eg}, EntL H ka es → ka.map (·.1) = (es.map enum).map Sum.inl
  | _, _, .nil => rfl
  | _, _, .cons h t => by
    rw [List.map_cons, List.map_cons, List.map_cons, h.1, ent_keys t]
theorem ent_vals : ∀ {ka : List (Key × V)} {es : List Eg}, EntL H ka es → DVs H (ka.map (·.2)) (es.map eP)
  | _, _, .nil => .nil
  | _, _, .cons h t => .cons h.2 (ent_vals t)
theorem ent_asc {ka : List (Key × V)} {es : List Eg} (h : EntL H ka es) (s : Srt ka) : Asc es := by
  obtain ⟨ks, e, pw⟩ := s
  rw [ent_keys h] at e
  have e : es.map enum = ks := inl_list e
  rw [← e] at pw
  exact List.pairwise_map.mp pw
theorem ent_int {ka : List (Key × V)} {es : List Eg} (h : EntL H ka es) (a : Asc es) : IntKeys ka := ⟨es.map enum, ent_keys h, List.pairwise_map.mpr (a.imp fun l e => by omega)⟩
theorem EntL.more {H' : Hp} (k : Same H H') {ka : List (Key × V)} {es : List Eg} (h : EntL H ka es) : EntL H' ka es := L2.Paired.mapP h fun p e z => ⟨z.1, z.2.more k⟩
theorem EntL.len {ka : List (Key × V)} {es : List Eg} (h : EntL H ka es) : ka.length = es.length := Paired.length h
end
end Y1
set_option Elab.async false
set_option linter.all false
set_option maxRecDepth 100000
set_option maxHeartbeats 16000000
/-! Figures as lists of edges. -/
namespace Y1
open PySem PySem.Spec PyProof.Rows L2 Nv
def FigE (CF : Addr) (H : Hp) (x : Addr) (es : List Eg) : Prop := ∃ kvs, FigAt CF H x kvs ∧ EntL H kvs es ∧ Asc es ∧ ∀ e ∈ es, edB e = true
/-- what the operators bring, in no order -/
def dueL (k : Nat) (a b : List Eg) : List Eg := match k with
  | 0 => a ++ lessL b a
  | 1 => commL a b
  | 2 => lessL a b
  | _ => lessL a b ++ lessL b a
theorem less_mem {a b : List Eg} {e : Eg} : e ∈ lessL a b ↔ e ∈ a ∧ e ∉ b := by
  unfold lessL
  rw [List.mem_filter]
  simp
theorem comm_mem {a b : List Eg} {e : Eg} : e ∈ commL a b ↔ e ∈ a ∧ e ∈ b := by
  unfold commL
  rw [List.mem_filter]
  simp
theorem due_ed {k : Nat} {a b : List Eg} (ha : ∀ e ∈ a, edB e = true) (hb : ∀ e ∈ b, edB e = true) : ∀ e ∈ dueL k a b, edB e = true := fun e he => by
  unfold dueL at he
  split at he
  · rcases List.mem_append.mp he with h | h
    · exact ha e h
    · exact hb e (less_mem.mp h).1
  · exact ha e (comm_mem.mp he).1
  · exact ha e (less_mem.mp he).1
  · rcases List.mem_append.mp he with h | h
    · exact ha e (less_mem.mp h).1
    · exact hb e (less_mem.mp h).1
theorem due_nodup {k : Nat} {a b : List Eg} (ha : a.Nodup) (hb : b.Nodup) : (dueL k a b).Nodup := by
  have la : ∀ c, (lessL a c).Nodup := fun c => List.filter_sublist.nodup ha
  have lb : ∀ c, (lessL b c).Nodup := fun c => List.filter_sublist.nodup hb
  unfold dueL
  split
  · rw [List.nodup_append]
    refine ⟨ha, lb a, fun x hx y hy e => ?_⟩
    subst e
    exact (less_mem.mp hy).2 hx
  · exact List.filter_sublist.nodup ha
  · exact la b
  · rw [List.nodup_append]
    refine ⟨la b, lb a, fun x hx y hy e => ?_⟩
    subst e
    exact (less_mem.mp hy).2 (less_mem.mp hx).1
theorem due_len {k : Nat} {a b : List Eg} : (dueL k a b).length ≤ a.length + b.length := by
  have la : (lessL a b).length ≤ a.length := List.length_filter_le _ _
  have lb : (lessL b a).length ≤ b.length := List.length_filter_le _ _
  have lc : (commL a b).length ≤ a.length := List.length_filter_le _ _
  unfold dueL
  split
  · rw [List.length_append]; omega
  · omega
  · omega
  · rw [List.length_append]; omega
section
variable {H : Hp} {ka kb : List (Key × V)} {e1 e2 : List Eg}
theorem ent_left (h1 : EntL H ka e1) (h2 : EntL H kb e2) (d1 : ∀ e ∈ e1, edB e = true) (d2 : ∀ e ∈ e2, edB e = true) : EntL H (leftK ka kb) (lessL e1 e2) :=
  ent_filter h1 fun p e he hp => by rw [hp.1, ent_has h2 d2 (d1 e he)]
theorem ent_both (h1 : EntL H ka e1) (h2 : EntL H kb e2) (d1 : ∀ e ∈ e1, edB e = true) (d2 : ∀ e ∈ e2, edB e = true) : EntL H (bothK ka kb) (commL e1 e2) :=
  ent_filter h1 fun p e he hp => by rw [hp.1, ent_has h2 d2 (d1 e he)]
/-- the four operators on dicts -/
def Gop (k : Nat) (ka kb kvs : List (Key × V)) : Prop := match k with
  | 0 => kvs.Perm (mergeK ka kb) ∧ Srt kvs
  | 1 => kvs = bothK ka kb
  | 2 => kvs = leftK ka kb
  | _ => kvs.Perm (mergeK (leftK ka kb) (leftK kb ka)) ∧ Srt kvs
theorem less_ed {a b : List Eg} (d : ∀ e ∈ a, edB e = true) : ∀ e ∈ lessL a b, edB e = true := fun e h => d e (less_mem.mp h).1
theorem ent_op {k : Nat} {kvs : List (Key × V)} (h1 : EntL H ka e1) (h2 : EntL H kb e2) (a1 : Asc e1) (a2 : Asc e2) (d1 : ∀ e ∈ e1, edB e = true) (d2 : ∀ e ∈ e2, edB e = true) (g : Gop k ka kb kvs) : ∃ es, EntL H kvs es ∧ Asc es ∧ es.Perm (dueL k e1 e2) := by
  unfold Gop at g
  unfold dueL
  split at g
  · obtain ⟨pm, st⟩ := g
    obtain ⟨es, p, en⟩ := ent_perm pm (ent_merge h2 d2 (asc_nodup a2) h1 d1)
    exact ⟨es, en, ent_asc en st, p⟩
  · subst g
    exact ⟨_, ent_both h1 h2 d1 d2, a1.filter _, List.Perm.refl _⟩
  · subst g
    exact ⟨_, ent_left h1 h2 d1 d2, a1.filter _, List.Perm.refl _⟩
  · obtain ⟨pm, st⟩ := g
    have m1 := ent_left h1 h2 d1 d2
    have m2 := ent_left h2 h1 d2 d1
    obtain ⟨es, p, en⟩ := ent_perm pm (ent_merge m2 (less_ed d2) (List.filter_sublist.nodup (asc_nodup a2)) m1 (less_ed d1))
    have e : lessL (lessL e2 e1) (lessL e1 e2) = lessL e2 e1 := by
      unfold lessL
      rw [List.filter_filter]
      refine List.filter_congr fun y hy => ?_
      by_cases m : y ∈ e1 <;> simp [m, hy]
    rw [e] at p
    exact ⟨es, en, ent_asc en st, p⟩
end
theorem FigE.more {CF : Addr} {H H' : Hp} {x : Addr} {es : List Eg} (s : Same H H') (h : FigE CF H x es) : FigE CF H' x es := by
  obtain ⟨kvs, ⟨dx, tt, hh, h1, h2, h3⟩, en, a, d⟩ := h
  exact ⟨kvs, ⟨dx, tt, hh, s _ _ h1, s _ _ h2, s _ _ h3⟩, en.more s, a, d⟩
/-! ### a figure of a list -/
theorem ent_held {H : Hp} {es : List Eg} : ∀ {xs : List V}, DVs H xs (es.map eP) → (∀ e ∈ es, edB e = true) → es.Nodup → EntL H (heldL xs (es.map eP)) es := fun {xs} dv ed nd => by
  have ln : xs.length = es.length := by rw [dv.length, List.length_map]
  have step : ∀ i, i ≤ es.length → EntL H (heldI xs (es.map eP) i) (es.take i) := by
    intro i
    induction i with
    | zero => intro _; exact .nil
    | succ i ih =>
      intro hi
      have ih := ih (by omega)
      have h1 : i < xs.length := by omega
      have h2 : i < es.length := by omega
      obtain ⟨d, hd, dvx⟩ := dv.at i xs[i] (List.getElem?_eq_getElem h1)
      have ed2 : (es.map eP)[i]? = some (eP es[i]) := by rw [List.getElem?_map, List.getElem?_eq_getElem h2]; rfl
      rw [ed2] at hd
      cases hd
      have ei := ed es[i] (List.getElem_mem h2)
      rw [heldI_succ (List.getElem?_eq_getElem h1) ed2, numE_enum ei, List.take_succ_eq_append_getElem h2]
      have p := ent_put ih (fun x hx => ed x (List.mem_of_mem_take hx)) ei dvx
      have no : es[i] ∉ es.take i := fun m => by
        obtain ⟨j, hj, ej⟩ := List.mem_iff_getElem.mp m
        rw [List.getElem_take] at ej
        rw [List.length_take] at hj
        exact List.pairwise_iff_getElem.mp nd j i (by omega) h2 (by omega) ej
      rw [if_neg no] at p
      exact p
  have := step es.length (Nat.le_refl _)
  rw [List.take_length, ← ln, heldI_all (by rw [List.length_map]; exact ln)] at this
  exact this
theorem good_fig {CF : Addr} {H H' : Hp} {x : Addr} {es : List Eg} {xs : List V} {kvs : List (Key × V)} (dv : DVs H' xs (es.map eP)) (ed : ∀ e ∈ es, edB e = true) (a : Asc es) (g : Good xs (es.map eP) kvs) (f : FigAt CF H' x kvs) : FigE CF H' x es := by
  obtain ⟨es', p, en⟩ := ent_perm g.1 (ent_held dv ed (asc_nodup a))
  have := asc_uniq (ent_asc en g.2) a p
  subst this
  exact ⟨kvs, f, en, a, ed⟩
theorem good_len {H : Hp} {es : List Eg} {xs : List V} {kvs : List (Key × V)} (dv : DVs H xs (es.map eP)) (ed : ∀ e ∈ es, edB e = true) (a : Asc es) (g : Good xs (es.map eP) kvs) : kvs.length = es.length := by
  rw [g.1.length_eq, (ent_held dv ed (asc_nodup a)).len]
end Y1
set_option Elab.async false
set_option linter.all false
set_option maxRecDepth 100000
set_option maxHeartbeats 16000000
/-! _law_caught. -/
namespace Y1
open PySem PySem.Spec PyProof.Rows L2 Nv
def numT (n : Nat) : Str := (PyData.int n).shown
def txtE (es : List Eg) : Str := (PyData.tuple (es.map eP)).shown
/-- what is told of the edges of a figure -/
def toldV (es : List Eg) : List V := if 400 < es.length then [.str "large", .str (numT es.length)] else [.str "told", .str (txtE es)]
theorem eP_ok {e : Eg} (h : edB e = true) : okD (eP e) := by
  obtain ⟨⟨a1, a2, a3, a4⟩, ⟨b1, b2, b3, b4⟩, _⟩ := edB_range h
  have okI : ∀ {i : Int}, 0 ≤ i → i ≤ 30 → i.natAbs < 10 ^ 40 := fun {i} h0 h1 => Nat.lt_of_le_of_lt (show i.natAbs ≤ 30 by omega) (by decide)
  simp only [eP, ptP, okD, okDs]
  exact ⟨⟨okI a1 a2, okI a3 a4, trivial⟩, ⟨okI b1 b2, okI b3 b4, trivial⟩, trivial⟩
theorem caps_es : ∀ es : List Eg, caps (es.map eP) = 187 * es.length
  | [] => rfl
  | e :: r => by
    show cap (eP e) + 2 + caps (r.map eP) = _
    rw [caps_es r, List.length_cons]
    show 185 + 2 + _ = _
    omega
theorem dep_es : ∀ es : List Eg, PyData.depthAll (es.map eP) ≤ 2
  | [] => by show 0 ≤ 2; decide
  | e :: r => by
    show max (eP e).depth (PyData.depthAll (r.map eP)) ≤ 2
    have : (eP e).depth = 2 := rfl
    have := dep_es r
    omega
theorem dic_es : ∀ es : List Eg, PyData.hasDictAll (es.map eP) = false
  | [] => rfl
  | e :: r => by
    show ((eP e).hasDict || PyData.hasDictAll (r.map eP)) = false
    rw [dic_es r]
    rfl
theorem nice_es {es : List Eg} (ed : ∀ e ∈ es, edB e = true) (l : es.length ≤ 1000) : Nice (.tuple (es.map eP)) := by
  have o : okDs (es.map eP) := okDs_all fun d hd => by
    obtain ⟨e, he, rfl⟩ := List.mem_map.mp hd
    exact eP_ok (ed e he)
  refine nice_of (by simpa [okD] using o) ?_ ?_ (by simpa [PyData.hasDict] using dic_es es)
  · show PyData.depthAll (es.map eP) + 1 ≤ 20
    have := dep_es es
    omega
  · show caps (es.map eP) + 3 ≤ 1000000
    rw [caps_es]
    omega
theorem nice_esL {es : List Eg} (ed : ∀ e ∈ es, edB e = true) (l : es.length ≤ 1000) : Nice (.list (es.map eP)) := by
  have o : okDs (es.map eP) := okDs_all fun d hd => by
    obtain ⟨e, he, rfl⟩ := List.mem_map.mp hd
    exact eP_ok (ed e he)
  refine nice_of (by simpa [okD] using o) ?_ ?_ (by simpa [PyData.hasDict] using dic_es es)
  · show PyData.depthAll (es.map eP) + 1 ≤ 20
    have := dep_es es
    omega
  · show caps (es.map eP) + 2 ≤ 1000000
    rw [caps_es]
    omega
theorem nice_n {n : Nat} (h : n ≤ 1000) : Nice (.int n) := nice_int (Nat.lt_of_le_of_lt (show (n : Int).natAbs ≤ 1000 by omega) (by decide))
end Y1
set_option Elab.async false
set_option linter.all false
set_option maxRecDepth 100000
set_option maxHeartbeats 16000000
/-! Tuples that stand while other things change. -/
namespace Y1
open PySem PySem.Spec PyProof.Rows L2 Nv
theorem dvs_at {H : Hp} {xs : List V} {es : List Eg} (d : DVs H xs (es.map eP)) {i : Nat} {x : V} (hx : xs[i]? = some x) : ∃ e, es[i]? = some e ∧ DV H x (eP e) := by
  obtain ⟨z, hz, dz⟩ := d.at i x hx
  rw [List.getElem?_map] at hz
  obtain ⟨e, he, rfl⟩ := Option.map_eq_some_iff.mp hz
  exact ⟨e, he, dz⟩
mutual
/-- no list and no dict stands in it -/
def imm : PyData → Bool
  | .list _ => false
  | .dict _ => false
  | .tuple l => imms l
  | _ => true
def imms : List PyData → Bool
  | [] => true
  | d :: r => imm d && imms r
end
def Tk (H H' : Hp) : Prop := ∀ a xs, H a = some (.tup xs) → H' a = some (.tup xs)
mutual
theorem dv_tk {H H' : Hp} (k : Tk H H') : ∀ {v : V} {d : PyData}, DV H v d → imm d = true → DV H' v d
  | _, _, .non, _ => .non
  | _, _, .bl b, _ => .bl b
  | _, _, .int i, _ => .int i
  | _, _, .str x, _ => .str x
  | _, _, .lst h r, n => by simp [imm] at n
  | _, _, .tup h r, n => .tup (k _ _ h) (dvs_tk k r (by simpa [imm] using n))
  | _, _, .emp h, n => by simp [imm] at n
theorem dvs_tk {H H' : Hp} (k : Tk H H') : ∀ {vs : List V} {ds : List PyData}, DVs H vs ds → imms ds = true → DVs H' vs ds
  | _, _, .nil, _ => .nil
  | _, _, .cons (d := d) (ds := ds) h r, n => by
    have n : imm d = true ∧ imms ds = true := by simpa [imms] using n
    exact .cons (dv_tk k h n.1) (dvs_tk k r n.2)
end
theorem eP_imm (e : Eg) : imm (eP e) = true := by simp [eP, ptP, imm, imms]
theorem imms_es : ∀ es : List Eg, imms (es.map eP) = true
  | [] => by simp [imms]
  | e :: r => by simp [imms, eP_imm, imms_es r]
theorem dvs_app {H : Hp} : ∀ {vs us : List V} {ds es : List PyData}, DVs H vs ds → DVs H us es → DVs H (vs ++ us) (ds ++ es)
  | _, _, _, _, .nil, k => k
  | _, _, _, _, .cons h r, k => .cons h (dvs_app r k)
end Y1
set_option Elab.async false
set_option linter.all false
set_option maxRecDepth 100000
set_option maxHeartbeats 16000000
/-! Between the data layer and the heap; what stands while the box or a list changes. -/
namespace Y1
open PySem PySem.Spec PyProof.Rows L2 Nv
/-! ### between the two layers -/
theorem BoxAt.le {H : Hp} {p : Addr} {m m' : Int} (h : BoxAt H p m) (le : m ≤ m') : BoxAt H p m' := by
  obtain ⟨b0, b1, b2, h1, h2, h3, h4, h5⟩ := h
  exact ⟨b0, b1, b2, h1, h2, h3, h4, by omega⟩
theorem BoxAt.more {H H' : Hp} {p : Addr} {m : Int} (k : Same H H') (h : BoxAt H p m) : BoxAt H' p m := by
  obtain ⟨b0, b1, b2, h1, h2⟩ := h
  exact ⟨b0, b1, b2, k _ _ h1, h2⟩
theorem BoxAt.some {H : Hp} {p : Addr} {m : Int} (h : BoxAt H p m) : ∃ o, H p = some o := by
  obtain ⟨b0, b1, b2, h1, h2⟩ := h
  exact ⟨_, h1⟩
theorem BoxAt.ne {H : Hp} {p a : Addr} {m : Int} (h : BoxAt H p m) (n : H a = none) : a ≠ p := fun e => by
  obtain ⟨o, q⟩ := h.some
  rw [← e, n] at q
  cases q
theorem but_tr {p : Addr} {a b c : Hp} (h : But p a b) (k : But p b c) : But p a c := fun x o n e => k x o n (h x o n e)
theorem but_of {p : Addr} {a b : Hp} (h : Same a b) : But p a b := fun x o _ e => h x o e
mutual
theorem dv_nv {K : PySem.W.Frag} {g : DL.Gh Empty} {H : Hp} (s : DL.Subs W0 g H) : ∀ {v : V} {d : D0} {p : PyData}, DL.DV K g v d → DL.py d = some p → Nv.DV H v p
  | _, _, _, .non, e => by cases e; exact .non
  | _, _, _, .bl b, e => by cases e; exact .bl b
  | _, _, _, .int i, e => by cases e; exact .int i
  | _, _, _, .str x, e => by cases e; exact .str x
  | _, _, _, .lst (ds := ds) h r, e => by
    unfold DL.py at e
    cases h2 : DL.pys ds with
    | none => rw [h2] at e; cases e
    | some ps =>
      rw [h2] at e
      cases e
      exact .lst (DL.Real.ho s h) (dvs_nv s r h2)
  | _, _, _, .tup (ds := ds) h r, e => by
    unfold DL.py at e
    cases h2 : DL.pys ds with
    | none => rw [h2] at e; cases e
    | some ps =>
      rw [h2] at e
      cases e
      exact .tup (DL.Real.ho s h) (dvs_nv s r h2)
  | _, _, _, .dK h l r, e => by cases e
  | _, _, _, .dT h l r, e => by cases e
  | _, _, _, .obj h, e => by cases e
theorem dvs_nv {K : PySem.W.Frag} {g : DL.Gh Empty} {H : Hp} (s : DL.Subs W0 g H) : ∀ {vs : List V} {ds : List D0} {ps : List PyData}, DL.DVs K g vs ds → DL.pys ds = some ps → Nv.DVs H vs ps
  | _, _, _, .nil, e => by cases e; exact .nil
  | _, _, _, .cons (d := d) (ds := ds) h r, e => by
    unfold DL.pys at e
    cases h1 : DL.py d with
    | none => rw [h1] at e; cases e
    | some p =>
      cases h2 : DL.pys ds with
      | none => rw [h1, h2] at e; cases e
      | some ps =>
        rw [h1, h2] at e
        cases e
        exact .cons (dv_nv s h h1) (dvs_nv s r h2)
end
/-- the tuples -/
def gT (H : Hp) : DL.Gh Empty := fun a => match H a with
  | some (.tup xs) => some (.ho (.tup xs))
  | _ => none
def fT (H : Hp) : Hp := fun a => match H a with
  | some (.tup _) => none
  | o => o
theorem gT_at {H : Hp} {a : Addr} {xs : List V} (h : H a = some (.tup xs)) : gT H a = some (.ho (.tup xs)) := by
  unfold gT
  rw [h]
theorem of_gT {H : Hp} {a : Addr} {o : DL.GO Empty} (h : gT H a = some o) : ∃ xs, H a = some (.tup xs) ∧ o = .ho (.tup xs) := by
  unfold gT at h
  split at h
  · rename_i xs e
    cases h
    exact ⟨xs, e, rfl⟩
  · cases h
theorem gT_sub {H : Hp} : DL.Subs W0 (gT H) H := fun a o h => by
  obtain ⟨xs, e, rfl⟩ := of_gT h
  exact .inl e
theorem fT_fr {H : Hp} {a : Addr} {o : HO} (h : fT H a = some o) : H a = some o ∧ gT H a = none := by
  unfold fT at h
  unfold gT
  split at h
  · cases h
  · rename_i n
    refine ⟨h, ?_⟩
    first
      | rfl
      | (split
         · rename_i xs e
           exact absurd e (n xs)
         · rfl)
theorem same_of {H H' : Hp} {g' : DL.Gh Empty} (le : DL.Le (gT H) g') (fr : DL.Frm W0 (fT H) g' H') : Same H H' := fun a o h => by
  by_cases ht : ∃ xs, o = .tup xs
  · obtain ⟨xs, rfl⟩ := ht
    exact DL.Real.ho fr.sub (le _ _ (gT_at h))
  · have : fT H a = some o := by
      unfold fT
      rw [h]
      split
      · rename_i xs e
        exact absurd ⟨xs, Option.some.inj e⟩ ht
      · rfl
    exact (fr.fr a o this).1
theorem but_of' {H H' : Hp} {p : Addr} {g' : DL.Gh Empty} (le : DL.Le (gT H) g') (fr : DL.Frm W0 (fun a => if a = p then none else fT H a) g' H') : But p H H' := fun a o ne h => by
  by_cases ht : ∃ xs, o = .tup xs
  · obtain ⟨xs, rfl⟩ := ht
    exact DL.Real.ho fr.sub (le _ _ (gT_at h))
  · have : fT H a = some o := by
      unfold fT
      rw [h]
      split
      · rename_i xs e
        exact absurd ⟨xs, Option.some.inj e⟩ ht
      · rfl
    exact (fr.fr a o (by simp only [if_neg ne]; exact this)).1
theorem box_nt {H : Hp} {p : Addr} {m : Int} (b : BoxAt H p m) : gT H p = none := by
  obtain ⟨b0, b1, b2, h, _⟩ := b
  unfold gT
  rw [h]
mutual
theorem dv_uniq {H : Hp} : ∀ {v : V} {d d' : PyData}, DV H v d → DV H v d' → d = d'
  | _, _, _, .non, .non => rfl
  | _, _, _, .bl _, .bl _ => rfl
  | _, _, _, .int _, .int _ => rfl
  | _, _, _, .str _, .str _ => rfl
  | _, _, _, .lst h r, .lst h' r' => by
    rw [h] at h'
    cases h'
    rw [dvs_uniq r r']
  | _, _, _, .lst h r, .tup h' r' => by rw [h] at h'; cases h'
  | _, _, _, .lst h r, .emp h' => by rw [h] at h'; cases h'
  | _, _, _, .tup h r, .lst h' r' => by rw [h] at h'; cases h'
  | _, _, _, .tup h r, .tup h' r' => by
    rw [h] at h'
    cases h'
    rw [dvs_uniq r r']
  | _, _, _, .tup h r, .emp h' => by rw [h] at h'; cases h'
  | _, _, _, .emp h, .lst h' r' => by rw [h] at h'; cases h'
  | _, _, _, .emp h, .tup h' r' => by rw [h] at h'; cases h'
  | _, _, _, .emp h, .emp h' => rfl
theorem dvs_uniq {H : Hp} : ∀ {vs : List V} {ds ds' : List PyData}, DVs H vs ds → DVs H vs ds' → ds = ds'
  | _, _, _, .nil, .nil => rfl
  | _, _, _, .cons h r, .cons h' r' => by rw [dv_uniq h h', dvs_uniq r r']
end
mutual
theorem dv_but {H H' : Hp} {a : Addr} {D : PyData} (hD : DV H (.ref a) D) (k : But a H H') : ∀ {v : V} {d : PyData}, DV H v d → d.depth < D.depth → DV H' v d
  | _, _, .non, _ => .non
  | _, _, .bl b, _ => .bl b
  | _, _, .int i, _ => .int i
  | _, _, .str x, _ => .str x
  | _, _, .lst (a := b) (ds := ds) h r, l => by
    have ne : b ≠ a := fun e => by
      subst e
      rw [dv_uniq (.lst h r) hD] at l
      exact Nat.lt_irrefl _ l
    refine .lst (k _ _ ne h) (dvs_but hD k r ?_)
    have : (PyData.list ds).depth = PyData.depthAll ds + 1 := rfl
    omega
  | _, _, .tup (a := b) (ds := ds) h r, l => by
    have ne : b ≠ a := fun e => by
      subst e
      rw [dv_uniq (.tup h r) hD] at l
      exact Nat.lt_irrefl _ l
    refine .tup (k _ _ ne h) (dvs_but hD k r ?_)
    have : (PyData.tuple ds).depth = PyData.depthAll ds + 1 := rfl
    omega
  | _, _, .emp (a := b) h, l => by
    have ne : b ≠ a := fun e => by
      subst e
      rw [dv_uniq (.emp h) hD] at l
      exact Nat.lt_irrefl _ l
    exact .emp (k _ _ ne h)
theorem dvs_but {H H' : Hp} {a : Addr} {D : PyData} (hD : DV H (.ref a) D) (k : But a H H') : ∀ {vs : List V} {ds : List PyData}, DVs H vs ds → PyData.depthAll ds < D.depth → DVs H' vs ds
  | _, _, .nil, _ => .nil
  | _, _, .cons (d := d) (ds := ds) h r, l => by
    have e : PyData.depthAll (d :: ds) = max d.depth (PyData.depthAll ds) := rfl
    exact .cons (dv_but hD k h (by omega)) (dvs_but hD k r (by omega))
end

theorem imms_all : ∀ {l : List PyData}, (∀ x ∈ l, imm x = true) → imms l = true
  | [], _ => by simp [imms]
  | x :: r, h => by simp [imms, h x List.mem_cons_self, imms_all fun y hy => h y (List.mem_cons_of_mem _ hy)]
theorem py_eD (e : Eg) : DL.py (eD e) = some (eP e) := rfl
theorem py_es : ∀ es : List Eg, DL.pys (es.map eD) = some (es.map eP)
  | [] => rfl
  | e :: r => by
    show DL.pys (eD e :: r.map eD) = _
    unfold DL.pys
    rw [py_eD, py_es r]
    rfl
def spEdges : Sp := fun vs H Q _ => ∃ (p : Addr) (m : Nat) (most : Int), vs = [.ref p, .int most] ∧ BoxAt H p (m : Int) ∧ 1 ≤ most ∧ most ≤ 10 ∧ m ≤ 900000 ∧
  ∀ (a : Addr) (xs : List V) (es : List Eg) (H' : Hp), (∀ e ∈ es, edB e = true) → (∃ l : Int, ∀ e ∈ es, l ≤ e.1.1 ∧ e.1.1 ≤ l + most) → Asc es → es.length ≤ 250 → ((most ≤ 4 → es.length ≤ 50) ∧ (most ≤ 2 → es.length ≤ 18)) → But p H H' → BoxAt H' p ((m + 300 : Nat) : Int) → H' a = some (.lst xs) → DVs H' xs (es.map eP) → H a = none → Q (.ref a) H'
theorem edges_weak {K : PySem.W.Frag} : ∀ vs H Q E, spEdges vs H Q E → DL.spB K W0 fEdges vs H Q E := fun vs H Q E ⟨p, m, most, e, b, h1, h2, h3, q⟩ => by
  refine ⟨fun a => if a = p then none else fT H a, gT H, p, m, [.int most], [.int most], fun d m' => ∃ es : List Eg, d = .lst (es.map eD) ∧ (∀ e ∈ es, edB e = true) ∧ (∃ l : Int, ∀ e ∈ es, l ≤ e.1.1 ∧ e.1.1 ≤ l + most) ∧ Asc es ∧ es.length ≤ 250 ∧ ((most ≤ 4 → es.length ≤ 50) ∧ (most ≤ 2 → es.length ≤ 18)) ∧ m' ≤ m + 300, e, ⟨gT_sub, fun a o ha => ?_⟩, if_pos rfl, box_nt b, b, .cons (.int _) .nil, ⟨most, rfl, ⟨h1, h2, h3⟩, fun es m' h4 hW hA h5 hF h6 => ⟨es, rfl, h4, hW, hA, h5, hF, h6⟩⟩, ?_⟩
  · by_cases z : a = p
    · simp only [if_pos z] at ha
      cases ha
    · simp only [if_neg z] at ha
      exact fT_fr ha
  · rintro d m' v g' H' ⟨es, rfl, ed, win, asc, ln, few, hm⟩ le fr gn bx dv
    have bx' : BoxAt H' p ((m + 300 : Nat) : Int) := BoxAt.le (m := (m' : Int)) bx (by omega)
    cases dv with
    | lst h r =>
      rename_i a xs
      refine q a xs es H' ed win asc ln few (but_of' le fr) bx' (DL.Real.ho fr.sub h) (dvs_nv fr.sub r (py_es es)) ?_
      have ne : a ≠ p := fun z => by rw [z, gn] at h; cases h
      cases ho : H a with
      | none => rfl
      | some o =>
        by_cases ht : ∃ ys, o = .tup ys
        · obtain ⟨ys, rfl⟩ := ht
          have := le _ _ (gT_at ho)
          rw [h] at this
          cases this
        · have fb : (fun a => if a = p then none else fT H a) a = some o := by
            simp only [if_neg ne]
            unfold fT
            rw [ho]
            split
            · rename_i ys e
              exact absurd ⟨ys, Option.some.inj e⟩ ht
            · rfl
          have := (fr.fr a o fb).2
          rw [h] at this
          cases this
end Y1
set_option Elab.async false
set_option linter.all false
set_option maxRecDepth 100000
set_option maxHeartbeats 16000000
/-! Small words about edges, lists and readings. -/
namespace Y1
open PySem PySem.Spec PyProof.Rows L2 Nv
theorem seq_i {t u : TS} {D : Ends} {σ : L2.St} {H : Hp} (h : t { D with nx := u D } σ H) : tSeq t u D σ H := h
theorem asg_i {te : TE} {g : TG} {D : Ends} {σ : L2.St} {H : Hp} (h : te σ H fun v H1 => g v σ H1 D.nx) : tAsg te g D σ H := h
theorem par_i {i j : Nat} {ta : TA} {D : Ends} {σ : L2.St} {H : Hp} (h : ta σ H fun vs H1 => ∃ v w, vs = [v, w] ∧ D.nx ((σ.set i (some v)).set j (some w)) H1) : tPar i j ta D σ H := h
theorem tup_i {t : TA} {σ : L2.St} {H : Hp} {Q : VK} (h : t σ H fun xs H1 => xs.length ≤ sizeLine ∧ ∀ p, H1 p = none → Q (.ref p) (upd H1 p (.tup xs))) : tTup t σ H Q := h
theorem lst_i {t : TA} {σ : L2.St} {H : Hp} {Q : VK} (h : t σ H fun xs H1 => xs.length ≤ sizeLine ∧ ∀ p, H1 p = none → Q (.ref p) (upd H1 p (.lst xs))) : tLst t σ H Q := h
theorem cons_i {te : TE} {t : TA} {σ : L2.St} {H : Hp} {Q : List V → Hp → Prop} (h : te σ H fun x H1 => t σ H1 fun xs H2 => Q (x :: xs) H2) : tCons te t σ H Q := h
theorem nil_i {σ : L2.St} {H : Hp} {Q : List V → Hp → Prop} (h : Q [] H) : tNil σ H Q := h
theorem cb_i {r : List V → Hp → VK → Prop} {t : TA} {σ : L2.St} {H : Hp} {Q : VK} (h : t σ H fun xs H1 => r xs H1 Q) : tCB r t σ H Q := h
theorem ret_i {te : TE} {D : Ends} {σ : L2.St} {H : Hp} (h : te σ H D.rt) : tRet te D σ H := h
theorem mkS_i {C : Addr} {sp : Sp} {E : L2.St → XK} {t : TA} {σ : L2.St} {H : Hp} {Q : VK} (h : t σ H fun vs H1 => ∀ y dx, H1 y = none → H1 dx = none → dx ≠ y → sp (.ref y :: vs) (upd (upd H1 dx (.own y)) y (.ins C dx [])) (fun v H2 => v = .non ∧ Q (.ref y) H2) (E σ)) : tMakeS C sp E t σ H Q := h
theorem mk_i {C : Addr} {sp : Sp} {dvs : List V} {E : XK} {t : TA} {σ : L2.St} {H : Hp} {Q : VK} (h : t σ H fun vs H1 => ∀ x dx, H1 x = none → H1 dx = none → dx ≠ x → sp (.ref x :: (vs ++ dvs)) (upd (upd H1 dx (.own x)) x (.ins C dx [])) (fun v H2 => v = .non ∧ Q (.ref x) H2) E) : tMake C sp dvs E t σ H Q := h
theorem call_i {sp : Sp} {dvs : List V} {E : XK} {t : TA} {σ : L2.St} {H : Hp} {Q : VK} (h : t σ H fun vs H1 => sp (vs ++ dvs) H1 Q E) : tCall sp dvs E t σ H Q := h
theorem callS_i {sp : Sp} {E : L2.St → XK} {t : TA} {σ : L2.St} {H : Hp} {Q : VK} (h : t σ H fun vs H1 => sp vs H1 Q (E σ)) : tCallS sp E t σ H Q := h
theorem op_i {r : R2} {ta tb : TE} {σ : L2.St} {H : Hp} {Q : VK} (h : ta σ H fun x H1 => tb σ H1 fun y H2 => r x y H2 Q) : tOp r ta tb σ H Q := h
theorem but_tk {p : Addr} {H H' : Hp} (k : But p H H') (n : ∀ xs, H p ≠ some (.tup xs)) : Tk H H' := fun a xs e => k _ _ (fun z => n xs (by rw [← z]; exact e)) e
theorem Tk.tr {a b c : Hp} (h : Tk a b) (k : Tk b c) : Tk a c := fun x xs e => k _ _ (h _ _ e)
theorem box_notup {H : Hp} {p : Addr} {m : Int} (b : BoxAt H p m) : ∀ zs, H p ≠ some (.tup zs) := fun zs e => by
  obtain ⟨b0, b1, b2, h1, _⟩ := b
  rw [h1] at e
  cases e
theorem box_but {H H' : Hp} {p b : Addr} {m : Int} (h : BoxAt H p m) (ne : b ≠ p) (k : But b H H') : BoxAt H' p m := by
  obtain ⟨b0, b1, b2, h1, h2⟩ := h
  exact ⟨b0, b1, b2, k _ _ (Ne.symm ne) h1, h2⟩
theorem but_upd {H : Hp} {D : Addr} {o : HO} : But D H (upd H D o) := fun c u ne e => by rw [upd_ne ne]; exact e
theorem dvs_box {H H' : Hp} {p : Addr} {m : Int} {ys : List V} {es : List Eg} (d : DVs H ys (es.map eP)) (b : BoxAt H p m) (k : But p H H') : DVs H' ys (es.map eP) := dvs_tk (but_tk k (box_notup b)) d (imms_es _)
theorem dvs_lst {H : Hp} {D : Addr} {xs zs : List V} {ys : List V} {es : List Eg} (d : DVs H ys (es.map eP)) (h : H D = some (.lst xs)) : DVs (upd H D (.lst zs)) ys (es.map eP) := dvs_tk (but_tk but_upd fun ws e => by rw [h] at e; cases e) d (imms_es _)
mutual
/-- as HandS' other rules want it -/
theorem dp_of {K : PySem.W.Frag} {H : Hp} : ∀ {v : V} {d : PyData}, DV H v d → imm d = true → Dp K H v d
  | _, _, .non, _ => .non
  | _, _, .bl b, _ => .bl b
  | _, _, .int i, _ => .int i
  | _, _, .str x, _ => .str x
  | _, _, .lst h r, n => by simp [imm] at n
  | _, _, .tup h r, n => .tup (SqT.of h) (dps_of r (by simpa [imm] using n))
  | _, _, .emp h, n => by simp [imm] at n
theorem dps_of {K : PySem.W.Frag} {H : Hp} : ∀ {vs : List V} {ds : List PyData}, DVs H vs ds → imms ds = true → DpAll K H vs ds
  | _, _, .nil, _ => .nil
  | _, _, .cons (d := d) (ds := ds) h r, n => by
    have n : imm d = true ∧ imms ds = true := by simpa [imms] using n
    exact .cons (dp_of h n.1) (dps_of r n.2)
end
theorem eqv_eP (a b : Eg) : PyData.eqv (eP a) (eP b) = decide (a = b) := by
  obtain ⟨p, q⟩ := a
  obtain ⟨p', q'⟩ := b
  simp only [eP, PyData.eqv, PyData.eqvAll, Bool.and_true]
  show (PyData.eqv (ptP p) (ptP p') && PyData.eqv (ptP q) (ptP q')) = _
  rw [eqv_ptP, eqv_ptP]
  by_cases h1 : p = p' <;> by_cases h2 : q = q' <;> simp [h1, h2]
theorem any_eP (e : Eg) : ∀ es : List Eg, ((es.map eP).any fun z => PyData.eqv z (eP e)) = decide (e ∈ es)
  | [] => by simp
  | x :: r => by
    rw [List.map_cons, List.any_cons, eqv_eP, any_eP e r]
    by_cases h : x = e
    · simp [h]
    · have : e ≠ x := fun z => h z.symm
      by_cases m : e ∈ r <;> simp [h, this, m]
theorem shaped_eP (e : Eg) : SeqAt.shaped (eP e) = true := by
  simp [SeqAt.shaped, eP, ptP, PyData.canLay0, PyData.canLayAll0, PyData.depth, PyData.depthAll]
theorem lay_es : ∀ es : List Eg, PyData.canLayAll0 (es.map eP) = true
  | [] => by simp [PyData.canLayAll0]
  | e :: r => by
    have : (eP e).canLay0 = true := by simp [eP, ptP, PyData.canLay0, PyData.canLayAll0]
    rw [List.map_cons, PyData.canLayAll0, this, lay_es r]
    rfl
theorem shaped_es (es : List Eg) : SeqAt.shaped (.list (es.map eP)) = true := by
  show (PyData.canLay0 (.list (es.map eP)) && decide (PyData.depth (.list (es.map eP)) ≤ 64)) = true
  rw [Bool.and_eq_true]
  refine ⟨by simp only [PyData.canLay0]; exact lay_es es, decide_eq_true ?_⟩
  show PyData.depthAll (es.map eP) + 1 ≤ 64
  have := dep_es es
  omega
def forBody : Stmt → List Stmt
  | .For _ _ b _ _ => b
  | _ => []
theorem ptB_of {p : Pt} (h : onP p = true) : ptB (ptP p) = true := by
  simp only [onP, Bool.and_eq_true] at h
  show (cooB (.int p.1) && cooB (.int p.2)) = true
  rw [Bool.and_eq_true]
  exact ⟨by show (decide (0 ≤ p.1) && decide (p.1 ≤ 30)) = true; rw [Bool.and_eq_true]; exact h.1, by show (decide (0 ≤ p.2) && decide (p.2 ≤ 30)) = true; rw [Bool.and_eq_true]; exact h.2⟩
theorem edgeB_of {e : Eg} (h : edB e = true) : edgeB (eP e) = true := by
  obtain ⟨h1, h2, h3⟩ := edB_on h
  show (ptB (ptP e.1) && (ptB (ptP e.2) && stepB (ptP e.1) (ptP e.2))) = true
  rw [ptB_of h1, ptB_of h2]
  obtain ⟨⟨x, y⟩, u, v⟩ := e
  rcases h3 with h3 | h3 <;> (simp only [Prod.mk.injEq] at h3; obtain ⟨rfl, rfl⟩ := h3; simp [stepB, ptP, xOf, yOf]; try exact decide_eq_true (by omega))
theorem eP_flat {e : Eg} (h : edB e = true) : flatP (eP e) := fun p r z => by
  have er : r = ptP e.2 := by
    have := PyData.tuple.inj z
    simp only [List.cons.injEq] at this
    exact this.2.1.symm
  subst er
  exact ⟨rfl, by simp [SeqAt.shaped, ptP, PyData.canLay0, PyData.canLayAll0, PyData.depth, PyData.depthAll]⟩
/-- a list of edges in their order -/
def LE (H : Hp) (a : Addr) (es : List Eg) : Prop := (∃ xs, H a = some (.lst xs) ∧ DVs H xs (es.map eP)) ∧ Asc es ∧ (∀ e ∈ es, edB e = true) ∧ es.length ≤ 400
theorem LE.more {H H' : Hp} {a : Addr} {es : List Eg} (h : LE H a es) (k : Same H H') : LE H' a es := by
  obtain ⟨⟨xs, h1, h2⟩, h3⟩ := h
  exact ⟨⟨xs, k _ _ h1, h2.more k⟩, h3⟩
section
variable {K : PySem.W.Frag} {H : Hp} {Q : VK}
theorem eqvAll_es : ∀ es : List Eg, PyData.eqvAll (es.map eP) (es.map eP) = true
  | [] => by simp [PyData.eqvAll]
  | e :: r => by
    rw [List.map_cons, PyData.eqvAll, eqv_eP, eqvAll_es r]
    simp
theorem shaped_est (es : List Eg) : SeqAt.shaped (.tuple (es.map eP)) = true := by
  show (PyData.canLay0 (.tuple (es.map eP)) && decide (PyData.depth (.tuple (es.map eP)) ≤ 64)) = true
  rw [Bool.and_eq_true]
  refine ⟨by simp only [PyData.canLay0]; exact lay_es es, decide_eq_true ?_⟩
  show PyData.depthAll (es.map eP) + 1 ≤ 64
  have := dep_es es
  omega
theorem tup_ne {L1 L2 : Addr} {xs ys : List V} {es : List Eg} (h1 : H L1 = some (.tup xs)) (h2 : H L2 = some (.tup ys)) (d1 : DVs H xs (es.map eP)) (d2 : DVs H ys (es.map eP)) (q : Q (.bl false) H) : rNeD K (.ref L1) (.ref L2) H Q := by
  refine ⟨.tuple (es.map eP), .tuple (es.map eP), .tup (SqT.of h1) (dps_of d1 (imms_es _)), .tup (SqT.of h2) (dps_of d2 (imms_es _)), shaped_est es, shaped_est es, ?_⟩
  have : PyData.eqv (.tuple (es.map eP)) (.tuple (es.map eP)) = true := by
    simp only [PyData.eqv]
    exact eqvAll_es es
  rw [this]
  exact q
/-- Figure(the list) -/
theorem make_i {sp : Sp} {mg : Str → Option Value} {CF CH C CT : Addr} (hsp : ∀ vs H Q E, spFig K CF CH C CT vs H Q E → sp vs H Q E) (Z : Kf K mg CF CH) {E : L2.St → XK} {i : Nat} {σ : L2.St} {a : Addr} {es : List Eg} (h : σ[i]? = some (some (.ref a))) (l : LE H a es)
    (q : ∀ y H', Same H H' → FigE CF H' y es → Q (.ref y) H') : tMakeS CF sp E (tCons (tVar i) tNil) σ H Q := by
  obtain ⟨⟨xs, ha, dv⟩, asc, ed, ln⟩ := l
  refine ⟨_, h, fun y dy ny ndy ne => hsp _ _ _ _ ?_⟩
  have s0 : Same H (upd (upd H dy (.own y)) y (.ins CF dy [])) := fun b o e => stay (stay e ndy) (by rw [upd_ne (Ne.symm ne)]; exact ny)
  have hy : upd (upd H dy (.own y)) y (.ins CF dy []) y = some (.ins CF dy []) := upd_same
  generalize upd (upd H dy (.own y)) y (.ins CF dy []) = HC at s0 hy
  have good : ∀ d ∈ es.map eP, edgeB d = true := fun d hd => by
    obtain ⟨e, he, rfl⟩ := List.mem_map.mp hd
    exact edgeB_of (ed e he)
  have dvC := dv.more s0
  refine ⟨y, dy, .ref a, .type "list", true, rfl, hy, .base (.lst (s0 _ _ ha)), Z.heldT _ (by decide), rfl, (fun e => nomatch e), fun _ => ⟨a, xs, es.map eP, rfl, ⟨.inl (s0 _ _ ha), dvC, fun d hd => ?_, by rw [List.length_map]; omega⟩, fun bad => ?_, fun _ kvs g => ⟨fun big => ?_, fun few HD bt fig => ⟨rfl, ?_⟩⟩⟩⟩
  · obtain ⟨e, he, rfl⟩ := List.mem_map.mp hd
    exact eP_flat (ed e he)
  · obtain ⟨d, hd, e⟩ := bad
    rw [good d hd] at e
    cases e
  · have := good_len dvC ed asc g
    omega
  · have sD : Same H HD := fun b o e => bt b o (fun z => by rw [z, ny] at e; cases e) (s0 b o e)
    exact q y HD sD (good_fig (H := H) (dv.more sD) ed asc g fig)
end
inductive Far (K : PySem.W.Frag) (H : Hp) (a : Addr) (xs : List V) (p : Addr) : Prop
  | wr (h : ∀ H, SqL K H a xs)
  | tr {o : HO} (h : H a = some o) (k : o = .lst xs ∨ ∃ ob, o = .frz ob (.lst xs)) (ne : a ≠ p)
theorem Far.seq {K : PySem.W.Frag} {H : Hp} {a p : Addr} {xs : List V} (f : Far K H a xs p) : SqL K H a xs := by
  rcases f with h | ⟨h, k, _⟩
  · exact h H
  · rcases k with rfl | ⟨ob, rfl⟩
    · exact .inl (.inl h)
    · exact .inl (.inr ⟨ob, h⟩)
theorem Far.of {K : PySem.W.Frag} {H H' : Hp} {a p : Addr} {xs : List V} (h : SqL K H a xs) (hp : H p = none) (k : Same H H') : Far K H' a xs p := by
  rcases h with (h | ⟨o, h⟩) | h
  · exact .tr (k _ _ h) (.inl rfl) (fun e => by rw [e, hp] at h; cases h)
  · exact .tr (k _ _ h) (.inr ⟨o, rfl⟩) (fun e => by rw [e, hp] at h; cases h)
  · exact .wr fun _ => .inr h
theorem Far.but {K : PySem.W.Frag} {H H' : Hp} {a p : Addr} {xs : List V} (f : Far K H a xs p) (k : But p H H') : Far K H' a xs p := by
  rcases f with h | ⟨h, q, ne⟩
  · exact .wr h
  · exact .tr (k _ _ ne h) q ne
theorem sql_more {K : PySem.W.Frag} {H H' : Hp} {a : Addr} {xs : List V} (h : SqL K H a xs) (k : Same H H') : SqL K H' a xs := by
  rcases h with (h | ⟨o, h⟩) | h
  · exact .inl (.inl (k _ _ h))
  · exact .inl (.inr ⟨o, k _ _ h⟩)
  · exact .inr h
theorem rng_ok (l : Nat) : -(2 ^ 62) ≤ (if (if (l : Int) < (8 : Int) then (l : Int) else (8 : Int)) > 2 then (if (l : Int) < (8 : Int) then (l : Int) else (8 : Int)) else 2 : Int) ∧ (if (if (l : Int) < (8 : Int) then (l : Int) else (8 : Int)) > 2 then (if (l : Int) < (8 : Int) then (l : Int) else (8 : Int)) else 2 : Int) < 2 ^ 62 ∧
    (if (if (l : Int) < (8 : Int) then (l : Int) else (8 : Int)) > 2 then (if (l : Int) < (8 : Int) then (l : Int) else (8 : Int)) else 2 : Int).toNat ≤ 8 := by
  refine ⟨?_, ?_, ?_⟩ <;> (split <;> split <;> omega)
theorem le_box {H H' : Hp} {p a : Addr} {m : Int} {es : List Eg} (l : LE H a es) (ne : a ≠ p) (b : BoxAt H p m) (k : But p H H') : LE H' a es := by
  obtain ⟨⟨xs, h1, h2⟩, h3⟩ := l
  exact ⟨⟨xs, k _ _ ne h1, dvs_box h2 b k⟩, h3⟩
theorem le_boxA {H H' : Hp} {p a : Addr} {m : Int} {es : List Eg} (l : LE H a es) (b : BoxAt H p m) (k : But p H H') : LE H' a es := by
  by_cases e : a = p
  · subst e
    obtain ⟨⟨xs, g1, g2⟩, g3, g4⟩ := l
    obtain ⟨b0, b1, b2, w1, _⟩ := b
    rw [w1] at g1
    cases g1
    cases es with
    | nil => cases g2
    | cons e es =>
      cases g2 with
      | cons h t => cases h
  · exact le_box l e b k
theorem con_i {v : V} {σ : L2.St} {H : Hp} {Q : VK} (h : Q v H) : tC v σ H Q := h
/-- a loop over a list display -/
theorem forl_i {K : PySem.W.Frag} {te : TE} {g : TG} {tb : TS} {D : Ends} {σ : L2.St} {H : Hp} (h : te σ H fun x H1 => ∃ a, x = .ref a ∧ (∃ xs, SqL K H1 a xs) ∧ ∃ W : Nat → Nat → L2.St → Hp → Prop, (∃ m, W 0 m σ H1) ∧ ∀ i m σ H, W i m σ H →
    ((Itl K a).stop i H ∧ D.nx σ H) ∨ ((Itl K a).go i H ∧ ∃ N : L2.St → Hp → Prop, (∀ σ' H', N σ' H' → ∃ m', m' < m ∧ W (i + 1) m' σ' H') ∧ ∀ x H', (Itl K a).yld i H x H' → g x σ H' fun σ2 H2 => tb { D with nx := N, ct := N, bk := D.nx } σ2 H2)) : tFor (iList K te) g tb D σ H := h
theorem rest_i {t u : TS} {D : Ends} {σ : L2.St} {H : Hp} (Pv : Hp → Prop) (h1 : ∀ X : L2.St → Hp → Prop, (∀ HS, Pv HS → X σ HS) → t { D with nx := X } σ H) (h2 : ∀ HS, Pv HS → u D σ HS) : tSeq t u D σ H := h1 _ fun HS h => h2 HS h
end Y1
set_option Elab.async false
set_option linter.all false
set_option maxRecDepth 100000
set_option maxHeartbeats 4000000
/-! The directions at the points of a list of edges. -/
namespace Y1
open PySem PySem.Spec PyProof.Rows L2 Nv
def pn (p : Pt) : Int := 31 * p.1 + p.2
def edR (p : Pt) : Eg := (p, (p.1 + 1, p.2))
def edU (p : Pt) : Eg := (p, (p.1, p.2 + 1))
def edL (p : Pt) : Eg := ((p.1 - 1, p.2), p)
def edD (p : Pt) : Eg := ((p.1, p.2 - 1), p)
def b2 (b : Bool) (n : Int) : Int := if b = true then n else 0
def mask (es : List Eg) (p : Pt) : Int := b2 (decide (edR p ∈ es)) 1 + b2 (decide (edU p ∈ es)) 2 + b2 (decide (edL p ∈ es)) 4 + b2 (decide (edD p ∈ es)) 8
theorem mask_nil (p : Pt) : mask [] p = 0 := by simp [mask, b2]
theorem b2_snoc {x e : Eg} {l : List Eg} (h : e ∉ l) (n : Int) : b2 (decide (x ∈ l ++ [e])) n = b2 (decide (x ∈ l)) n + b2 (decide (x ∈ [e])) n := by
  by_cases m : x ∈ l
  · have ne : x ≠ e := fun z => h (z ▸ m)
    simp [b2, m, ne]
  · by_cases k : x = e
    · subst k
      simp [b2, m]
    · simp [b2, m, k]
theorem mask_snoc {e : Eg} {l : List Eg} (h : e ∉ l) (p : Pt) : mask (l ++ [e]) p = mask l p + mask [e] p := by
  unfold mask
  rw [b2_snoc h, b2_snoc h, b2_snoc h, b2_snoc h]
  omega
theorem mask_one_r {p r : Pt} : mask [edR p] r = if r = p then 1 else if r = (p.1 + 1, p.2) then 4 else 0 := by
  obtain ⟨x, y⟩ := p
  obtain ⟨a, b⟩ := r
  simp only [mask, edR, edU, edL, edD, List.mem_singleton, Prod.mk.injEq, b2, decide_eq_true_eq]
  split <;> split <;> split <;> split <;> split <;> (try split) <;> omega
theorem mask_one_u {p r : Pt} : mask [edU p] r = if r = p then 2 else if r = (p.1, p.2 + 1) then 8 else 0 := by
  obtain ⟨x, y⟩ := p
  obtain ⟨a, b⟩ := r
  simp only [mask, edR, edU, edL, edD, List.mem_singleton, Prod.mk.injEq, b2, decide_eq_true_eq]
  split <;> split <;> split <;> split <;> split <;> (try split) <;> omega
theorem mask_le (es : List Eg) (p : Pt) : 0 ≤ mask es p ∧ mask es p ≤ 15 := by
  unfold mask b2
  split <;> split <;> split <;> split <;> omega
theorem edB_ru {e : Eg} (h : edB e = true) : e = edR e.1 ∨ e = edU e.1 := by
  obtain ⟨a1, a2, a3⟩ := edB_range h
  obtain ⟨⟨x, y⟩, u, v⟩ := e
  dsimp only at *
  rcases a3 with ⟨rfl, rfl⟩ | ⟨rfl, rfl⟩
  · exact .inr rfl
  · exact .inl rfl
theorem mask_ne {es : List Eg} (ed : ∀ e ∈ es, edB e = true) (p : Pt) : mask es p ≠ 0 ↔ ∃ e ∈ es, p = e.1 ∨ p = e.2 := by
  have hs : mask es p = 0 ↔ edR p ∉ es ∧ edU p ∉ es ∧ edL p ∉ es ∧ edD p ∉ es := by
    unfold mask b2
    by_cases h1 : edR p ∈ es <;> by_cases h2 : edU p ∈ es <;> by_cases h3 : edL p ∈ es <;> by_cases h4 : edD p ∈ es <;> simp [h1, h2, h3, h4]
  constructor
  · intro h
    by_cases h1 : edR p ∈ es
    · exact ⟨_, h1, .inl rfl⟩
    by_cases h2 : edU p ∈ es
    · exact ⟨_, h2, .inl rfl⟩
    by_cases h3 : edL p ∈ es
    · exact ⟨_, h3, .inr rfl⟩
    by_cases h4 : edD p ∈ es
    · exact ⟨_, h4, .inr rfl⟩
    exact absurd (hs.mpr ⟨h1, h2, h3, h4⟩) h
  · rintro ⟨e, he, h⟩ z
    obtain ⟨z1, z2, z3, z4⟩ := hs.mp z
    rcases edB_ru (ed e he) with k | k
    · rcases h with rfl | rfl
      · exact z1 (k ▸ he)
      · refine z3 ?_
        have : edL e.2 = e := by
          rw [k]
          simp [edL, edR]
        rw [this]
        exact he
    · rcases h with rfl | rfl
      · exact z2 (k ▸ he)
      · refine z4 ?_
        have : edD e.2 = e := by
          rw [k]
          simp [edD, edU]
        rw [this]
        exact he
/-! ### ascending numbers -/
theorem asc_ext : ∀ {a b : List Int}, a.Pairwise (· < ·) → b.Pairwise (· < ·) → (∀ x, x ∈ a ↔ x ∈ b) → a = b
  | [], [], _, _, _ => rfl
  | [], y :: _, _, _, h => absurd ((h y).mpr List.mem_cons_self) (by simp)
  | x :: _, [], _, _, h => absurd ((h x).mp List.mem_cons_self) (by simp)
  | x :: a, y :: b, pa, pb, h => by
    obtain ⟨xa, pa2⟩ := List.pairwise_cons.mp pa
    obtain ⟨yb, pb2⟩ := List.pairwise_cons.mp pb
    have e : x = y := by
      rcases List.mem_cons.mp ((h x).mp List.mem_cons_self) with e | m
      · exact e
      · rcases List.mem_cons.mp ((h y).mpr List.mem_cons_self) with e | m2
        · exact e.symm
        · have := xa y m2
          have := yb x m
          omega
    subst e
    refine congrArg _ (asc_ext pa2 pb2 fun z => ⟨fun m => ?_, fun m => ?_⟩)
    · rcases List.mem_cons.mp ((h z).mp (List.mem_cons_of_mem _ m)) with e | k
      · have := xa z m
        omega
      · exact k
    · rcases List.mem_cons.mp ((h z).mpr (List.mem_cons_of_mem _ m)) with e | k
      · have := yb z m
        omega
      · exact k
def unP (k : Int) : Pt := (k / 31, k % 31)
theorem unP_pn {p : Pt} (h : onP p = true) : unP (pn p) = p := by
  simp only [onP, Bool.and_eq_true, decide_eq_true_eq] at h
  obtain ⟨x, y⟩ := p
  simp only [unP, pn, Prod.mk.injEq]
  dsimp only at h
  omega
def allP : List Pt := (List.range 961).map fun (k : Nat) => unP (k : Int)
theorem allP_mem {p : Pt} : p ∈ allP ↔ onP p = true := by
  unfold allP
  rw [List.mem_map]
  constructor
  · rintro ⟨k, hk, rfl⟩
    have hk := List.mem_range.mp hk
    show ((decide (0 ≤ (k : Int) / 31) && decide ((k : Int) / 31 ≤ 30)) && (decide (0 ≤ (k : Int) % 31) && decide ((k : Int) % 31 ≤ 30))) = true
    simp only [Bool.and_eq_true, decide_eq_true_eq]
    omega
  · intro h
    have e := unP_pn h
    simp only [onP, Bool.and_eq_true, decide_eq_true_eq] at h
    have : 0 ≤ pn p ∧ pn p < 961 := by
      unfold pn
      omega
    refine ⟨(pn p).toNat, List.mem_range.mpr (by omega), ?_⟩
    rw [show (((pn p).toNat : Nat) : Int) = pn p by omega]
    exact e
theorem allP_asc : (allP.map pn).Pairwise (· < ·) := by
  unfold allP
  rw [List.map_map]
  refine List.pairwise_map.mpr (List.Pairwise.imp_of_mem (fun {a b} _ _ l => ?_) List.pairwise_lt_range)
  show pn (unP a) < pn (unP b)
  simp only [pn, unP]
  omega
/-- the points of a list of edges, ascending -/
def ptsS (es : List Eg) : List Pt := allP.filter fun p => decide (mask es p ≠ 0)
theorem ptsS_mem {es : List Eg} {p : Pt} : p ∈ ptsS es ↔ onP p = true ∧ mask es p ≠ 0 := by
  unfold ptsS
  rw [List.mem_filter, allP_mem, decide_eq_true_eq]
theorem ptsS_asc (es : List Eg) : ((ptsS es).map pn).Pairwise (· < ·) := allP_asc.sublist (List.Sublist.map _ List.filter_sublist)
theorem map_inj_on {l m : List Pt} (hl : ∀ p ∈ l, onP p = true) (hm : ∀ p ∈ m, onP p = true) (e : l.map pn = m.map pn) : l = m := by
  have h : ∀ {k : List Pt}, (∀ p ∈ k, onP p = true) → (k.map pn).map unP = k := fun {k} hk => by
    rw [List.map_map]
    exact (List.map_congr_left fun p hp => unP_pn (hk p hp)).trans (List.map_id _)
  rw [← h hl, e, h hm]
theorem ptsS_uniq {es : List Eg} {l : List Pt} (hl : ∀ p ∈ l, onP p = true) (asc : (l.map pn).Pairwise (· < ·)) (hm : ∀ p, onP p = true → (p ∈ l ↔ mask es p ≠ 0)) : l = ptsS es := by
  refine map_inj_on hl (fun p hp => (ptsS_mem.mp hp).1) (asc_ext asc (ptsS_asc es) fun x => ⟨fun h => ?_, fun h => ?_⟩)
  · obtain ⟨p, hp, rfl⟩ := List.mem_map.mp h
    exact List.mem_map_of_mem (ptsS_mem.mpr ⟨hl p hp, (hm p (hl p hp)).mp hp⟩)
  · obtain ⟨p, hp, rfl⟩ := List.mem_map.mp h
    obtain ⟨h1, h2⟩ := ptsS_mem.mp hp
    exact List.mem_map_of_mem ((hm p h1).mpr h2)
theorem ptsS_len (es : List Eg) : (ptsS es).length ≤ 961 := by
  refine Nat.le_trans (List.length_filter_le _ _) ?_
  unfold allP
  rw [List.length_map, List.length_range]
  exact Nat.le_refl _
/-! ### letters -/
def letT : List Str := ["", "r", "u", "ru", "l", "rl", "ul", "rul", "d", "rd", "ud", "rud", "ld", "rld", "uld", "ruld"]
def letS (m : Int) : Str := letT.getD m.toNat ""
def dirS (es : List Eg) (p : Pt) : Str := letS (mask es p)
def oddS (es : List Eg) : List Pt := (ptsS es).filter fun p => decide ((dirS es p).length % 2 = 1)
def letK (es : List Eg) : List (Key × V) := (ptsS es).map fun p => ((Sum.inl (pn p) : Key), V.str (dirS es p))
end Y1
set_option Elab.async false
set_option linter.all false
set_option maxRecDepth 100000
set_option maxHeartbeats 16000000
/-! _letters_by_number. -/
namespace Y1
open PySem PySem.Spec PyProof.Rows L2 Nv
/-- what stands at a number -/
def optM (l : List Eg) (k : Int) : Option V := if mask l (unP k) = 0 then none else some (.int (mask l (unP k)))
/-- marks made for the edges l -/
structure MarkI (kvs : List (Key × V)) (l : List Eg) : Prop where
  ik : IntKeys kvs
  len : kvs.length ≤ 2 * l.length
  at_ : ∀ k : Int, valV kvs (Sum.inl k) = optM l k
theorem optM_getD (l : List Eg) (k : Int) : (optM l k).getD (.int 0) = .int (mask l (unP k)) := by
  unfold optM
  by_cases h : mask l (unP k) = 0
  · rw [if_pos h, h]; rfl
  · rw [if_neg h]; rfl
theorem pn_unP {k : Int} : pn (unP k) = k := by simp only [pn, unP]; omega
theorem mark_two {kvs : List (Key × V)} {l : List Eg} {e : Eg} {a b : Int} {m n : Int} (I : MarkI kvs l) (no : e ∉ l) (ab : a ≠ b) (ma : mask [e] (unP a) = m) (mb : mask [e] (unP b) = n) (oth : ∀ k, k ≠ a → k ≠ b → mask [e] (unP k) = 0) (mp : 0 < m) (np : 0 < n) :
    MarkI (putK (putK kvs (Sum.inl a) (.int (mask l (unP a) + m))) (Sum.inl b) (.int (mask l (unP b) + n))) (l ++ [e]) := by
  refine ⟨putK_intKeys (putK_intKeys I.ik), ?_, fun k => ?_⟩
  · have h1 := putK_le (putK kvs (Sum.inl a) (.int (mask l (unP a) + m))) (Sum.inl b) (.int (mask l (unP b) + n))
    have h2 := putK_le kvs (Sum.inl a) (.int (mask l (unP a) + m))
    have := I.len
    rw [List.length_append]
    show _ ≤ 2 * (l.length + 1)
    omega
  · rw [valV_put, valV_put]
    unfold optM
    rw [mask_snoc no]
    by_cases kb : k = b
    · subst kb
      have := (mask_le l (unP k)).1
      rw [if_pos rfl, mb, if_neg (by omega)]
    · rw [if_neg (fun z => kb (Sum.inl.inj z))]
      by_cases ka : k = a
      · subst ka
        have := (mask_le l (unP k)).1
        rw [if_pos rfl, ma, if_neg (by omega)]
      · rw [if_neg (fun z => ka (Sum.inl.inj z)), I.at_, oth k ka kb, Int.add_zero]
        rfl
theorem unP_inj {a b : Int} (h : unP a = unP b) : a = b := by rw [← pn_unP (k := a), h, pn_unP]
theorem onP_of {p : Pt} {e : Eg} (h : edB e = true) (m : p = e.1 ∨ p = e.2) : onP p = true := by
  obtain ⟨a1, a2, a3⟩ := edB_range h
  obtain ⟨⟨x, y⟩, u, v⟩ := e
  dsimp only at *
  simp only [onP, Bool.and_eq_true, decide_eq_true_eq]
  rcases m with rfl | rfl <;> dsimp only <;> rcases a3 with ⟨rfl, rfl⟩ | ⟨rfl, rfl⟩ <;> omega
theorem en_r {e : Eg} (h : edB e = true) (o : enum e % 2 = 1) : enum e / 2 = pn e.1 ∧ e = edR e.1 ∧ onP e.1 = true ∧ unP (pn e.1 + 31) = (e.1.1 + 1, e.1.2) := by
  have e1 := onP_of h (.inl rfl)
  have u1 := unP_pn e1
  obtain ⟨a1, a2, a3⟩ := edB_range h
  obtain ⟨⟨x, y⟩, u, v⟩ := e
  simp only [enum, pn, unP, edR, Prod.mk.injEq] at *
  rcases a3 with ⟨rfl, rfl⟩ | ⟨rfl, rfl⟩
  · omega
  · refine ⟨by omega, by simp, e1, by omega, by omega⟩
theorem en_u {e : Eg} (h : edB e = true) (o : ¬ enum e % 2 = 1) : enum e / 2 = pn e.1 ∧ e = edU e.1 ∧ onP e.1 = true ∧ unP (pn e.1 + 1) = (e.1.1, e.1.2 + 1) := by
  have e1 := onP_of h (.inl rfl)
  have u1 := unP_pn e1
  obtain ⟨a1, a2, a3⟩ := edB_range h
  obtain ⟨⟨x, y⟩, u, v⟩ := e
  simp only [enum, pn, unP, edU, Prod.mk.injEq] at *
  rcases a3 with ⟨rfl, rfl⟩ | ⟨rfl, rfl⟩
  · refine ⟨by omega, by simp, e1, by omega, by omega⟩
  · omega
theorem mark_r {kvs : List (Key × V)} {l : List Eg} {e : Eg} (I : MarkI kvs l) (no : e ∉ l) (h : edB e = true) (o : enum e % 2 = 1) :
    MarkI (putK (putK kvs (Sum.inl (enum e / 2)) (.int (mask l (unP (enum e / 2)) + 1))) (Sum.inl (enum e / 2 + 31)) (.int (mask l (unP (enum e / 2 + 31)) + 4))) (l ++ [e]) := by
  obtain ⟨e1, e2, e3, e4⟩ := en_r h o
  have m : ∀ r, mask [e] r = if r = e.1 then 1 else if r = (e.1.1 + 1, e.1.2) then 4 else 0 := fun r => by rw [e2]; exact mask_one_r
  rw [e1]
  refine mark_two I no (by omega) ?_ ?_ (fun k ka kb => ?_) (by decide) (by decide)
  · rw [m, unP_pn e3, if_pos rfl]
  · rw [m, e4, if_neg (fun z => by have := congrArg Prod.fst z; dsimp only at this; omega), if_pos rfl]
  · rw [m, if_neg (fun z => ka (by rw [← z, pn_unP])), if_neg (fun z => kb (unP_inj (z.trans e4.symm)))]
theorem mark_u {kvs : List (Key × V)} {l : List Eg} {e : Eg} (I : MarkI kvs l) (no : e ∉ l) (h : edB e = true) (o : ¬ enum e % 2 = 1) :
    MarkI (putK (putK kvs (Sum.inl (enum e / 2)) (.int (mask l (unP (enum e / 2)) + 2))) (Sum.inl (enum e / 2 + 1)) (.int (mask l (unP (enum e / 2 + 1)) + 8))) (l ++ [e]) := by
  obtain ⟨e1, e2, e3, e4⟩ := en_u h o
  have m : ∀ r, mask [e] r = if r = e.1 then 2 else if r = (e.1.1, e.1.2 + 1) then 8 else 0 := fun r => by rw [e2]; exact mask_one_u
  rw [e1]
  refine mark_two I no (by omega) ?_ ?_ (fun k ka kb => ?_) (by decide) (by decide)
  · rw [m, unP_pn e3, if_pos rfl]
  · rw [m, e4, if_neg (fun z => by have := congrArg Prod.snd z; dsimp only at this; omega), if_pos rfl]
  · rw [m, if_neg (fun z => ka (by rw [← z, pn_unP])), if_neg (fun z => kb (unP_inj (z.trans e4.symm)))]
/-- the numbers of the points, ascending -/
theorem mark_keys {kvs : List (Key × V)} {es : List Eg} (I : MarkI kvs es) (ed : ∀ e ∈ es, edB e = true) {ks ys : List Int} (hk : kvs.map (·.1) = ks.map Sum.inl) (pm : ys.Perm ks) (st : ys.Pairwise (· < ·)) : ys = (ptsS es).map pn := by
  have mem : ∀ k : Int, k ∈ ys ↔ mask es (unP k) ≠ 0 := fun k => by
    rw [pm.mem_iff]
    have a := I.at_ k
    unfold optM at a
    constructor
    · intro m z
      rw [if_pos z] at a
      have n := valV_not a
      rw [hk] at n
      exact n (List.mem_map_of_mem m)
    · intro z
      rw [if_neg z] at a
      have n := valV_in a
      rw [hk] at n
      obtain ⟨j, hj, ej⟩ := List.mem_map.mp n
      rw [← Sum.inl.inj ej]
      exact hj
  have back : (ys.map unP).map pn = ys := by
    rw [List.map_map]
    exact (List.map_congr_left fun k _ => pn_unP).trans (List.map_id _)
  have on : ∀ p ∈ ys.map unP, onP p = true := fun p hp => by
    obtain ⟨k, hk2, rfl⟩ := List.mem_map.mp hp
    obtain ⟨e, he, m⟩ := (mask_ne ed _).mp ((mem k).mp hk2)
    exact onP_of (ed e he) m
  rw [← ptsS_uniq on (by rw [back]; exact st) (fun p hp => ?_), back]
  constructor
  · intro m
    obtain ⟨k, hk2, rfl⟩ := List.mem_map.mp m
    exact (mem k).mp hk2
  · intro z
    have e := unP_pn hp
    rw [← e]
    refine List.mem_map_of_mem ((mem _).mpr ?_)
    rw [e]
    exact z
structure Tlt (K : PySem.W.Frag) (mg : Str → Option Value) : Prop where
  side : ∃ t, mg "SIDE" = some (.int 31 t)
  lets : ∃ a, mg "LETTERS" = some (.ref a) ∧ ∀ H, SqT K H a (letT.map V.str)
  srt : mg "sorted" = none
def spLn : Sp := fun vs H Q _ => ∃ (a : Addr) (ka : List (Key × V)) (es : List Eg), vs = [.ref a] ∧ H a = some (.dK ka) ∧ ka.map (·.1) = (es.map enum).map Sum.inl ∧ (∀ e ∈ es, edB e = true) ∧ es.Nodup ∧ es.length ≤ 400 ∧ ∀ h H', Same H H' → H' h = some (.dK (letK es)) → Q (.ref h) H'
section
variable {P : Program} {w : World} {K : PySem.W.Frag} {mg : Str → Option Value} {base : Heap}
abbrev lnN : List Str := ["held", "marks", "number", "point"]
theorem scLn : FnScope lnN ["held"] (defScope (top 30)) := ⟨rfl, rfl, rfl, by decide +kernel, rfl, by decide +kernel, by decide +kernel⟩
theorem letS_at {m : Int} (h0 : 0 ≤ m) (h1 : m ≤ 15) : atI (letT.map V.str) m = some (.str (letS m)) := by
  obtain ⟨n, rfl⟩ := Int.eq_ofNat_of_zero_le h0
  refine atI_nat (j := n) ?_
  have hn : n < letT.length := by show n < 16; omega
  rw [List.getElem?_map, List.getElem?_eq_getElem hn]
  show some (V.str letT[n]) = some (V.str (letT.getD n ""))
  rw [List.getD_eq_getElem?_getD, List.getElem?_eq_getElem hn]
  rfl
/-- letters by number, put one by one -/
theorem let_put {ys : List Int} {f : Int → V} (st : ys.Pairwise (· < ·)) {i : Nat} (hlt : i < ys.length) : putK ((ys.take i).map fun k => ((Sum.inl k : Key), f k)) (Sum.inl ys[i]) (f ys[i]) = (ys.take (i + 1)).map fun k => ((Sum.inl k : Key), f k) := by
  rw [putK_new, List.take_succ_eq_append_getElem hlt, List.map_append]
  · rfl
  · cases ev : valV ((ys.take i).map fun k => ((Sum.inl k : Key), f k)) (Sum.inl ys[i]) with
    | none => rfl
    | some v =>
      have mm := valV_in ev
      rw [List.map_map] at mm
      obtain ⟨k, hk, ek⟩ := List.mem_map.mp mm
      have ek : k = ys[i] := Sum.inl.inj ek
      obtain ⟨j, hj, ej⟩ := List.mem_iff_getElem.mp hk
      rw [List.getElem_take] at ej
      have hj2 : j < i := by
        rw [List.length_take] at hj
        omega
      have := List.pairwise_iff_getElem.mp st j i (by omega) hlt hj2
      omega
theorem ok_ln {f : Addr} {fd : FuncData} (F : Fun K "_letters_by_number" "_letters_by_number" (top 30) f fd) (T : Tlt K mg) : FnOk P w K mg base CX0 1 f fd ["held"] spLn := by
  refine F.ok scLn (fun vs H Q E h => by obtain ⟨a, ka, es, rfl, _⟩ := h; rfl) (fun cdv A outer s H vs Q E hr h => ?_)
  obtain ⟨a, ka, es, rfl, ha, hka, ed, nd, l1, q⟩ := h
  have hu : (A.deeper (envOfC "_letters_by_number" (defScope (top 30)) s.heap.objs.size f cdv)).units + 1 < cLine := by
    have := hr.un
    omega
  obtain ⟨tS, hS⟩ := T.side
  obtain ⟨aL, gL, hL⟩ := T.lets
  refine ⟨_, (pss_cons (ps_set (i := 1) scLn.nd rfl (Or.inr rfl) pe_dnewK)
    (pss_cons (ps_lock (ps_for PassesOwn.never rfl (pi_keys (pv 0)) (pg_name (i := 2) scLn.nd rfl (Or.inl rfl))
      (pss_cons (ps_set (i := 3) scLn.nd rfl (Or.inl rfl) (pe_op op_fdiv (pv 2) pe_int))
      (pss_one (ps_if (pt_cmpR op_eq (pe_op op_mod (pv 2) pe_int) pe_int (nomark _))
        (pss_cons (ps_dput hu (pv 1) (pv 3) (pe_op op_add (pe_dget2 hu (pv 1) (pv 3) pe_int ⟨rfl, rfl, rfl, rfl⟩) pe_int) (by rfl))
        (pss_one (ps_dput hu (pv 1) (pe_op op_add (pv 3) (pe_glob (v := .int 31) rfl hS ⟨_, rfl⟩)) (pe_op op_add (pe_dget2 hu (pv 1) (pe_op op_add (pv 3) (pe_glob (v := .int 31) rfl hS ⟨_, rfl⟩)) pe_int ⟨rfl, rfl, rfl, rfl⟩) pe_int) (by rfl))))
        (pss_cons (ps_dput hu (pv 1) (pv 3) (pe_op op_add (pe_dget2 hu (pv 1) (pv 3) pe_int ⟨rfl, rfl, rfl, rfl⟩) pe_int) (by rfl))
        (pss_one (ps_dput hu (pv 1) (pe_op op_add (pv 3) pe_int) (pe_op op_add (pe_dget2 hu (pv 1) (pe_op op_add (pv 3) pe_int) pe_int ⟨rfl, rfl, rfl, rfl⟩) pe_int) (by rfl)))))))))
    (pss_one (ps_ret (pe_dc (own := [("point", 3)]) (g := gName 3) (tt := tYes) rfl scLn.nd (pi_list (pe_callB (call_sortedDw rfl) (by rfl) T.srt (by decide +kernel) (pa_cons (pv 1) pa_nil))) (blkOk_by (N := lnN) (sc := defScope (top 30)) (by decide +kernel)) (fun _ _ _ _ _ => pg_name (i := 3) scLn.nd rfl (Or.inl rfl)) (fun _ _ _ _ _ => pts_nil) (fun _ _ _ _ _ => pv 3)
        (fun _ _ _ _ _ => pe_ix (r := rIxT K) (by exact ix_tup) (pe_glob (v := .ref aL) rfl gL rfl) (pe_dget hu (pv 1) (pv 3) (by intro _ _; rfl)) (fun _ _ => rfl))))))), ?_⟩
  refine fun D nD => ?_
  have s1 : Same H (upd H D (.dK [])) := fun b o e => stay e nD
  have ha1 := s1 _ _ ha
  have hD0 : upd H D (.dK []) D = some (.dK []) := upd_same
  have nDH : ∀ b o, H b = some o → b ≠ D := fun b o e z => by rw [z, nD] at e; cases e
  generalize upd H D (.dK []) = H1 at s1 ha1 hD0
  have lka : ka.length = es.length := by
    have := congrArg List.length hka
    simpa using this
  refine ⟨a, _, ha1, trivial, fun od => ?_⟩
  have naD : D ≠ a := fun z => by rw [z, ha1] at hD0; cases hD0; exact absurd ha (by rw [← z]; rw [nD]; exact fun e => nomatch e)
  let Pv : Nat → L2.St → Hp → Prop := fun i σ H' => (∃ o2 o3, σ = [some (.ref a), some (.ref D), o2, o3]) ∧ (∀ b o, H b = some o → b ≠ a → H' b = some o) ∧ H' a = some (.frz od (.dK ka)) ∧ ∃ kvs, H' D = some (.dK kvs) ∧ MarkI kvs (es.take i)
  refine ⟨_, rfl, a, od, rfl, .inl ⟨ka, upd_same, for_it (xs := ka.map fun p => kV p.1) Pv ?_ ?_ ?_ ?_ ?_⟩⟩
  · refine ⟨⟨_, _, rfl⟩, fun b o e ne => ?_, upd_same, [], ?_, ⟨⟨[], rfl, List.nodup_nil⟩, Nat.zero_le _, fun k => ?_⟩⟩
    · rw [upd_ne ne]; exact s1 _ _ e
    · rw [upd_ne naD]; exact hD0
    · show none = optM [] k
      unfold optM
      rw [mask_nil, if_pos rfl]
  · rintro i σ H' hi ⟨_, _, hA, _⟩
    rw [List.length_map] at hi
    refine ⟨⟨hA, hi⟩, fun x H'' y => ⟨y.1, ?_⟩⟩
    obtain ⟨k, v, hk, rfl⟩ := y.2
    rw [List.getElem?_map, hk]
    rfl
  · rintro σ H' ⟨_, _, hA, _⟩
    exact ⟨hA, by rw [List.length_map]; exact Nat.le_refl _⟩
  · rintro i x σ H' hx ⟨⟨o2, o3, rfl⟩, kp, hA, kvs, hD, I⟩
    have hi : i < es.length := by
      have := (List.getElem?_eq_some_iff.mp hx).1
      rw [List.length_map] at this
      omega
    have ex : x = .int (enum es[i]) := by
      have e1 : (ka.map fun p => kV p.1) = ((es.map enum).map Sum.inl).map kV := by rw [← hka, List.map_map]; rfl
      rw [e1, List.getElem?_map, List.getElem?_map, List.getElem?_map, List.getElem?_eq_getElem hi] at hx
      exact (Option.some.inj hx).symm
    subst ex
    have me := ed es[i] (List.getElem_mem hi)
    have no : es[i] ∉ es.take i := fun m => by
      obtain ⟨j, hj, ej⟩ := List.mem_iff_getElem.mp m
      rw [List.getElem_take] at ej
      rw [List.length_take] at hj
      exact List.pairwise_iff_getElem.mp nd j i (by omega) hi (by omega) ej
    have big : ∀ {n : Nat}, n ≤ 2 * (es.take i).length + 2 → n < sizeLine := fun {n} h => Nat.lt_of_le_of_lt (show n ≤ 1000 by rw [List.length_take] at h; omega) (by decide)
    have l0 := I.len
    have done : ∀ kvs', MarkI kvs' (es.take i ++ [es[i]]) → Pv (i + 1) [some (.ref a), some (.ref D), some (.int (enum es[i])), some (.int (enum es[i] / 2))] (upd H' D (.dK kvs')) := fun kvs' I' => by
      refine ⟨⟨_, _, rfl⟩, fun b o e ne => by rw [upd_ne (nDH b o e)]; exact kp b o e ne, by rw [upd_ne naD.symm]; exact hA, kvs', upd_same, ?_⟩
      rw [List.take_succ_eq_append_getElem hi]
      exact I'
    refine ⟨_, rfl, _, _, rfl, rfl, ⟨by decide, by decide⟩, ?_⟩
    refine ⟨_, rfl, _, _, rfl, rfl, (by show (0 : Int) < 2; decide), rfl, _, rfl, ?_⟩
    have hDg : ∀ {H : Hp} {kvs : List (Key × V)} (k : Int), H D = some (.dK kvs) → DGet H D (.int k) (valV kvs (Sum.inl k)) := fun {H kvs} k e => DGet.k (k := Sum.inl k) e
    have hIs : ∀ {H : Hp} {kvs : List (Key × V)}, H D = some (.dK kvs) → IsD H D := fun {H kvs} e => .inl ⟨kvs, .inl e⟩
    have sz1 := putK_le kvs (Sum.inl (enum es[i] / 2))
    have two : ∀ (Dn : Ends) (m st : Int) (n : Int), Dn.nx = Pv (i + 1) → st ≠ 0 → MarkI (putK (putK kvs (Sum.inl (enum es[i] / 2)) (.int (mask (es.take i) (unP (enum es[i] / 2)) + m))) (Sum.inl (enum es[i] / 2 + st)) (.int (mask (es.take i) (unP (enum es[i] / 2 + st)) + n))) (es.take i ++ [es[i]]) →
        tSeq (sDPut (tVar 1) (tVar 3) (tOp (rI0 fun i j => V.int (i + j)) (tDGet2 (tVar 1) (tVar 3) (tC (V.int 0))) (tC (V.int m))))
            (sDPut (tVar 1) (tOp (rI0 fun i j => V.int (i + j)) (tVar 3) (tC (V.int st))) (tOp (rI0 fun i j => V.int (i + j)) (tDGet2 (tVar 1) (tOp (rI0 fun i j => V.int (i + j)) (tVar 3) (tC (V.int st))) (tC (V.int 0))) (tC (V.int n)))) Dn [some (.ref a), some (.ref D), some (.int (enum es[i])), some (.int (enum es[i] / 2))] H' := fun Dn m st n hn z I' => by
      have g1 : (valV kvs (Sum.inl (enum es[i] / 2))).getD (.int 0) = .int (mask (es.take i) (unP (enum es[i] / 2))) := by rw [I.at_, optM_getD]
      refine ⟨_, rfl, D, rfl, hIs hD, _, rfl, _, hDg _ hD, ?_⟩
      rw [g1]
      refine ⟨_, _, rfl, rfl, _, rfl, _, rfl, D, _, rfl, DPut.k (k := Sum.inl (enum es[i] / 2)) hD (big (by omega)), ?_⟩
      have hD2 : upd H' D (.dK (putK kvs (Sum.inl (enum es[i] / 2)) (.int (mask (es.take i) (unP (enum es[i] / 2)) + m)))) D = some (.dK (putK kvs (Sum.inl (enum es[i] / 2)) (.int (mask (es.take i) (unP (enum es[i] / 2)) + m)))) := upd_same
      have g2 : (valV (putK kvs (Sum.inl (enum es[i] / 2)) (.int (mask (es.take i) (unP (enum es[i] / 2)) + m))) (Sum.inl (enum es[i] / 2 + st))).getD (.int 0) = .int (mask (es.take i) (unP (enum es[i] / 2 + st))) := by
        rw [valV_put, if_neg (fun e => by have := Sum.inl.inj e; omega), I.at_, optM_getD]
      refine ⟨_, rfl, D, rfl, hIs hD2, _, rfl, _, _, rfl, rfl, _, hDg _ hD2, ?_⟩
      rw [g2]
      refine ⟨_, _, rfl, rfl, _, rfl, _, rfl, _, _, rfl, rfl, D, _, rfl, DPut.k (k := Sum.inl (enum es[i] / 2 + st)) hD2 (big (by have := sz1 (.int (mask (es.take i) (unP (enum es[i] / 2)) + m)); omega)), ?_⟩
      have := done _ I'
      rw [hn, L2.upd_upd]
      exact this
    by_cases o : enum es[i] % 2 = 1
    · refine ifT (decide_eq_true (congrArg V.int o)) (two _ 1 31 4 rfl (by decide) (mark_r I no me o))
    · refine ifF (decide_eq_false fun e => o (V.int.inj e)) (two _ 2 1 8 rfl (by decide) (mark_u I no me o))
  · rintro σ H' ⟨⟨o2, o3, rfl⟩, kp, hA, kvs, hD, I⟩
    refine ⟨hA, ?_⟩
    rw [List.length_map, lka, List.take_length] at I
    have hD2 : upd H' a (.dK ka) D = some (.dK kvs) := by rw [upd_ne naD]; exact hD
    have sm : Same H (upd H' a (.dK ka)) := fun b o e => by
      by_cases eb : b = a
      · subst eb
        rw [upd_same, ← ha, e]
      · rw [upd_ne eb]
        exact kp b o e eb
    generalize upd H' a (.dK ka) = H2 at hD2 sm
    obtain ⟨ks, hk, ndk⟩ := I.ik
    refine ⟨_, rfl, D, kvs, ks, rfl, .inl hD2, hk, fun ys p pm le np => ?_⟩
    have s3 : Same H2 (upd H2 p (.lst (ys.map V.int))) := fun b o e => stay e np
    have hp3 : upd H2 p (.lst (ys.map V.int)) p = some (.lst (ys.map V.int)) := upd_same
    have hD3 := s3 _ _ hD2
    generalize upd H2 p (.lst (ys.map V.int)) = H3 at s3 hp3 hD3
    have st := strict_of pm ndk le
    have ye := mark_keys I ed hk pm st
    have ly : ys.length ≤ 961 := by rw [ye, List.length_map]; exact ptsS_len es
    refine ⟨p, rfl, ⟨_, SqL.of hp3⟩, fun h nh => ?_⟩
    let f : Int → V := fun k => .str (letS (mask es (unP k)))
    let I2 : Nat → Hp → Prop := fun i H' => (∀ b o, H3 b = some o → H' b = some o) ∧ H' h = some (.dK ((ys.take i).map fun k => ((Sum.inl k : Key), f k)))
    refine ⟨fun i m H' => m = ys.length - i ∧ i ≤ ys.length ∧ I2 i H', ⟨_, rfl, Nat.zero_le _, fun b o e => stay e nh, upd_same⟩, ?_⟩
    rintro i m H4 ⟨rfl, hi, sk, hh⟩
    have hp4 := sk _ _ hp3
    by_cases hlt : i < ys.length
    · have hx : ys[i]? = some ys[i] := List.getElem?_eq_getElem hlt
      refine .inr ⟨⟨ys.map V.int, .int ys[i], SqL.of hp4, by rw [List.getElem?_map, hx]; rfl⟩, fun H'' => I2 (i + 1) H'', fun H'' z => ⟨_, by omega, rfl, hlt, z⟩, fun x H'' y => ?_⟩
      obtain ⟨rfl, y⟩ := y
      have ex := y _ (SqL.of hp4)
      rw [List.getElem?_map, hx] at ex
      cases (Option.some.inj ex)
      have mk : ys[i] ∈ ys := List.getElem_mem hlt
      have vv : valV kvs (Sum.inl ys[i]) = some (.int (mask es (unP ys[i]))) := by
        rw [I.at_]
        unfold optM
        obtain ⟨p, hp, ep⟩ := List.mem_map.mp (show ys[i] ∈ (ptsS es).map pn by rw [← ye]; exact mk)
        obtain ⟨on, ne⟩ := ptsS_mem.mp hp
        rw [← ep, unP_pn on, if_neg ne]
      have ml := mask_le es (unP ys[i])
      refine ⟨rfl, _, rfl, _, rfl, _, rfl, D, .int (mask es (unP ys[i])), rfl, ?_, aL, _, _, _, rfl, rfl, hL _, letS_at ml.1 ml.2, ?_⟩
      · have := DGet.k (k := Sum.inl ys[i]) (sk _ _ hD3)
        rw [vv] at this
        exact this
      · refine ⟨_, Sum.inl ys[i], rfl, hh, ?_, fun b o e => ?_, ?_⟩
        · rw [List.length_map, List.length_take]
          exact Nat.lt_of_le_of_lt (show min i ys.length ≤ 1001 by omega) (by decide)
        · have nb : b ≠ h := fun z => by rw [z, nh] at e; cases e
          rw [upd_ne nb]
          exact sk b o e
        · rw [upd_same]
          exact congrArg (fun z => some (HO.dK z)) (let_put (f := f) st hlt)
    · have ei : i = ys.length := by omega
      subst ei
      refine .inl ⟨⟨_, SqL.of hp4, by rw [List.length_map]; exact Nat.le_refl _⟩, q h H4 (fun b o e => sk b o (s3 b o (sm b o e))) ?_⟩
      rw [hh, List.take_length, ye, List.map_map]
      refine congrArg (fun z => some (HO.dK z)) (List.map_congr_left fun p hp => ?_)
      show ((Sum.inl (pn p) : Key), V.str (letS (mask es (unP (pn p))))) = _
      rw [unP_pn (ptsS_mem.mp hp).1]
      rfl
end
end Y1
set_option Elab.async false
set_option linter.all false
set_option maxRecDepth 100000
set_option maxHeartbeats 4000000
/-! A thing locked behind the expression that brings it; unlocked at the end. -/
namespace Nv
open PySem PySem.Spec PyProof.Rows L2
def tLockV (td : TE) : TE := fun σ H Q => td σ H fun x H1 => ∃ d u, x = .ref d ∧ H1 d = some u ∧ Mut (some u) ∧ ∀ od, Q x (upd H1 d (.frz od u))
def tUnl (H0 : Hp) (t : TE) : TE := fun σ H Q => t σ H fun v H' => ∃ d u od, H' d = some (.frz od u) ∧ (∀ o' u', H0 d ≠ some (.frz o' u')) ∧ Q v (upd H' d u)
section
variable {X : Cx} {e : Expr} {t : TE}
theorem pe_lockV (h : PE X e t) : PE X e (tLockV t) := by
  refine ⟨fun pins s σ H Q I hw => ?_⟩
  refine thn (h.run pins s σ H _ I hw) fun v s1 ⟨x, H1, I1, r, d, u, ex, hd, mu, q⟩ => ?_
  obtain ⟨od, I2⟩ := I1.lock hd mu
  exact ⟨x, _, I2, r, q od⟩
theorem pe_unl (h : PE X e t) : PE X e (tUnl X.H_0 t) := by
  refine ⟨fun pins s σ H Q I hw => ?_⟩
  refine thn (h.run pins s σ H _ I hw) fun v s1 ⟨x, H1, I1, r, d, u, od, hd, hn, q⟩ => ?_
  exact ⟨x, _, I1.unlock hd hn, r, q⟩
end
/-- the statement ends with d locked; it is unlocked -/
def tUnlS (H0 : Hp) (t : TS) : TS := fun D σ H => ∃ d u, (∀ o' u', H0 d ≠ some (.frz o' u')) ∧ ∃ od, t ⟨fun σ' H' => H' d = some (.frz od u) ∧ D.nx σ' (upd H' d u), fun v H' => H' d = some (.frz od u) ∧ D.rt v (upd H' d u), fun σ' H' => H' d = some (.frz od u) ∧ D.bk σ' (upd H' d u), fun σ' H' => H' d = some (.frz od u) ∧ D.ct σ' (upd H' d u)⟩ σ H
end Nv
set_option Elab.async false
set_option linter.all false
set_option maxRecDepth 100000
set_option maxHeartbeats 16000000
/-! len(x) by an own __len__. -/
namespace Nv
open PySem PySem.Spec PyProof.Rows L2
section
variable {X : Cx} {k : Nat} {C f : Addr} {fd : FuncData} {sp : Sp}
theorem ins_at {pins : List (Addr × Obj)} {σ : L2.St} {H : Hp} {s : Shared} (I : Inv X pins σ H s) {a dx : Addr} {fs : List (Str × V)} (ha : H a = some (.ins C dx fs)) : ∃ od, PySem.W.InstAt s.heap a (PySem.W.instObj C dx) C (some od) := by
  obtain ⟨_, _, _, e, mA, ns, _⟩ := I.hok a _ ha
  obtain ⟨od, hod, _⟩ := lookIn_ns ns
  exact ⟨od, ⟨e, rfl, rfl, hod⟩⟩
def rLenF (C : Addr) (sp : Sp) : List V → Hp → VK → Prop := fun xs H Q => ∃ a dx fs, xs = [.ref a] ∧ H a = some (.ins C dx fs) ∧ sp [.ref a] H (fun v H' => ∃ n : Nat, v = .int n ∧ n < 4294967296 ∧ Q (.int n) H') E0
theorem call_lenF (F : FnOk X.prog X.w X.K X.mg X.base CX0 k f fd ["self"] sp) (hr : Room k X.A.in1) (hb : Binds X.K fd ["self"] []) (hl : PySem.W.findIn X.K (.ref C) "__len__" = some (some (.ref f))) (hf : PySem.W.isFn X.K (.ref f) = true) :
    CallR X (.builtin "len") (rLenF C sp) := by
  rintro pins s σ H xs us Q I r ⟨a, dx, fs, rfl, ha, q⟩
  obtain ⟨_, rfl, rfl⟩ : ∃ u, us = [u] ∧ u = Value.ref a := by
    obtain ⟨u, e, rx⟩ := vals1 r
    exact ⟨u, e, rx⟩
  obtain ⟨od, inst⟩ := ins_at I ha
  obtain ⟨m, fr⟩ := I.fr
  have bd := hb s [.ref a] I.kIn rfl
  rw [List.append_nil] at bd
  refine PySem.W.len_K fr I.ok.mod.kin inst hl hf (wpAny_call (codeAny_mono (F.run X.A.in1 X.stack s H ⟨[.ref a], []⟩ [.ref a] [.ref a] _ E0 hr I.env0.in1 bd (.cons rfl .nil) q) ?_))
  rintro (er | (_ | _ | _ | u)) s' g
  · exact g.elim
  · exact g.elim
  · exact g.elim
  · exact g.elim
  · obtain ⟨v, H', J, rv, n, rfl, small, q2⟩ := I.after g
    obtain ⟨t, rfl⟩ := rv
    exact ⟨⟨by omega, by omega⟩, ⟨.int n, H', J.tok _, ⟨_, rfl⟩, q2⟩⟩
end
end Nv
set_option Elab.async false
set_option linter.all false
set_option maxRecDepth 100000
set_option maxHeartbeats 16000000
/-! is_integer, is_point. -/
namespace Y1
open PySem PySem.Spec PyProof.Rows L2 Nv
theorem spB_len {b : PyData → Bool} {n : Str} : ∀ (vs : List V) (H : Hp) (Q : VK) (E : XK), spB b vs H Q E → vs.length = [n].length := fun vs H Q E h => by
  obtain ⟨v, d, rfl, _⟩ := h
  rfl
section
variable {P : Program} {w : World} {K : PySem.W.Frag} {mg : Str → Option Value} {base : Heap}
theorem scI : FnScope ["value"] ["value"] (defScope (top 14)) := ⟨rfl, rfl, rfl, by decide +kernel, rfl, by decide +kernel, by decide +kernel⟩
theorem ok_isint {f : Addr} {fd : FuncData} (F : Fun K "is_integer" "is_integer" (top 14) f fd) (T : Ta mg) : FnOk P w K mg base CX0 1 f fd ["value"] (spB intB) := by
  refine F.ok scI spB_len (fun cdv A outer s H vs Q E hr h => ?_)
  obtain ⟨v, d, rfl, dv, q⟩ := h
  refine ⟨_, pss_one (ps_ret (pe_and (pe_callB call_isi (by rfl) T.isi (by decide +kernel) (pa_cons (pv 0) (pa_cons (pe_bltn (v := .ty "int") (u := .type "int") (by rfl) T.int (by decide +kernel) rfl) pa_nil)))
    (pe_one (pe_not (pe_callB call_isi (by rfl) T.isi (by decide +kernel) (pa_cons (pv 0) (pa_cons (pe_bltn (v := .ty "bool") (u := .type "bool") (by rfl) T.bool (by decide +kernel) rfl) pa_nil))))))), ?_⟩
  refine ⟨_, rfl, _, .ty "int", .type (tyN d), .type "int", _, rfl, .ty _, ty_of dv, kit_ty (kit_int d), _, rfl, ite2 (fun e => ?_) (fun e => ?_)⟩
  · refine ⟨_, rfl, _, .ty "bool", .type (tyN d), .type "bool", _, rfl, .ty _, ty_of dv, kit_ty (kit_bool d), _, rfl, ?_⟩
    have := q H (same0 H)
    rwa [intB_eq, and_t e] at this
  · have := q H (same0 H)
    rwa [intB_eq, and_f e] at this
theorem scPt : FnScope ["value", "x", "y"] ["value"] (defScope (top 15)) := ⟨rfl, rfl, rfl, by decide +kernel, rfl, by decide +kernel, by decide +kernel⟩
theorem ok_ispoint {f fI : Addr} {fd fdI : FuncData} (F : Fun K "is_point" "is_point" (top 15) f fd) (T : Ta mg) (GI : FnOk P w K mg base CX0 1 fI fdI ["value"] (spB intB)) (AI : At K mg "is_integer" fI fdI ["value"]) :
    FnOk P w K mg base CX0 3 f fd ["value"] (spB ptB) := by
  refine F.ok scPt spB_len (fun cdv A outer s H vs Q E hr h => ?_)
  obtain ⟨v, d, rfl, dv, q⟩ := h
  obtain ⟨tt, hT⟩ := T.last
  refine ⟨_, pss_cons (ps_if (PW.pt (pw_or (pt_not (pt_val (pe_callB call_isi (by rfl) T.isi (by decide +kernel) (pa_cons (pv 0) (pa_cons (pe_bltn (v := .ty "tuple") (u := .type "tuple") (by rfl) T.tup (by decide +kernel) rfl) pa_nil)))))
      (pw_or1 (pt_cmpR op_ne (pe_callB call_len_seq (by rfl) T.len PySem.boot_len (pa_cons (pv 0) pa_nil)) pe_int (nomark _))))) (pss_one (ps_ret pe_bl)) pss_nil)
    (pss_cons (ps_asg (pv 0) (pg_tup rfl (pgs_cons (pg_name (i := 1) scPt.nd rfl (Or.inl rfl)) (pgs_cons (pg_name (i := 2) scPt.nd rfl (Or.inl rfl)) pgs_nil))))
    (pss_one (ps_ret (pe_and (pe_call GI (hr.mono (by decide)) rfl AI.g AI.k AI.b .nil pass0 (pa_cons (pv 1) pa_nil)) (pe_and (pe_call GI (hr.mono (by decide)) rfl AI.g AI.k AI.b .nil pass0 (pa_cons (pv 2) pa_nil))
      (pe_and (pe_chain op_le op_le pe_int (pv 1) (pe_glob (v := .int 30) rfl hT ⟨_, rfl⟩)) (pe_one (pe_chain op_le op_le pe_int (pv 2) (pe_glob (v := .int 30) rfl hT ⟨_, rfl⟩))))))))), ?_⟩
  refine ⟨_, rfl, _, .ty "tuple", .type (tyN d), .type "tuple", _, rfl, .ty _, ty_of dv, kit_ty (kit_tuple d), _, rfl, ?_⟩
  cases e : tupish d with
  | false =>
    have := q H (same0 H)
    rwa [ptB_pair (pair_tup e)] at this
  | true =>
    obtain ⟨ds, rfl⟩ := tupish_of e
    obtain ⟨a, xs, rfl, h1, r⟩ := dv_tup dv
    refine ⟨_, rfl, a, xs, rfl, .inr (sqt h1), rfl, _, rfl, ?_⟩
    cases e1 : (!decide (V.int (xs.length : Int) = V.int 2)) with
    | true =>
      have := q H (same0 H)
      rw [r.length] at e1
      rwa [ptB_pair (pair_nolen e1)] at this
    | false =>
      rw [r.length] at e1
      obtain ⟨da, db, rfl⟩ := pair_len e1
      obtain ⟨a', x, y, ea, h1', hx, hy⟩ := dv_pair dv
      cases ea
      refine ⟨_, rfl, a, _, rfl, sqt h1', rfl, _, _, rfl, _, _, rfl, rfl, ?_⟩
      refine ⟨_, rfl, x, da, rfl, hx, fun H2 s2 => ⟨_, rfl, ite2 (fun i1 => ?_) (fun i1 => ?_)⟩⟩
      · obtain ⟨i, rfl⟩ := int_of i1
        refine ⟨_, rfl, y, db, rfl, hy.more s2, fun H3 s3 => ⟨_, rfl, ite2 (fun i2 => ?_) (fun i2 => ?_)⟩⟩
        · obtain ⟨j, rfl⟩ := int_of i2
          have s13 : Same H H3 := fun b o e => s3 b o (s2 b o e)
          rw [dv_int hx, dv_int hy]
          have fin : ptB (.tuple [.int i, .int j]) = ((decide (0 ≤ i) && decide (i ≤ 30)) && (decide (0 ≤ j) && decide (j ≤ 30))) := rfl
          have q3 := q H3 s13
          rw [fin] at q3
          refine ⟨_, rfl, _, _, rfl, rfl, _, rfl, ite2 (fun c1 => ?_) (fun c1 => ?_)⟩
          · rw [c1, Bool.true_and] at q3
            refine ⟨_, _, rfl, rfl, _, rfl, ite2 (fun c2 => ?_) (fun c2 => ?_)⟩
            · rw [c2, Bool.true_and] at q3
              refine ⟨_, rfl, _, _, rfl, rfl, _, rfl, ite2 (fun c3 => ?_) (fun c3 => ?_)⟩
              · rw [c3, Bool.true_and] at q3
                exact ⟨_, _, rfl, rfl, q3⟩
              · rwa [(Bool.not_eq_true _).mp c3, Bool.false_and] at q3
            · rwa [(Bool.not_eq_true _).mp c2, Bool.false_and] at q3
          · rw [(Bool.not_eq_true _).mp c1, Bool.false_and, Bool.false_and] at q3
            exact ⟨_, rfl, q3⟩
        · have := q H3 fun b o e => s3 b o (s2 b o e)
          rwa [show ptB (.tuple [.int i, db]) = false from (by show (cooB _ && cooB db) = false; rw [coo_int ((Bool.not_eq_true _).mp i2), Bool.and_false])] at this
      · have := q H2 s2
        rwa [show ptB (.tuple [da, db]) = false from (by show (cooB da && cooB db) = false; rw [coo_int ((Bool.not_eq_true _).mp i1), Bool.false_and])] at this
end
end Y1
set_option Elab.async false
set_option linter.all false
set_option maxRecDepth 100000
set_option maxHeartbeats 16000000
namespace Y1
open PySem PySem.Spec PyProof.Rows L2 Nv SX
def pairK (K : PySem.W.Frag) (u : Option (Option Value)) (x y : Int) : Bool := match u with
  | some (some (.ref a)) => (match K.lookup a with
    | some ⟨.type c, _, .seq its _, _⟩ => (match its.toList with
      | [.int i _, .int j _] => decide (c = "tuple") && (decide (i = x) && decide (j = y))
      | _ => false)
    | _ => false)
  | _ => false
def strK (u : Option (Option Value)) (x : Str) : Bool := match u with
  | some (some (.str y _)) => decide (y = x)
  | _ => false
theorem strK_of {u : Option (Option Value)} {x : Str} (h : strK u x = true) : ∃ t, u = some (some (.str x t)) := by
  unfold strK at h
  split at h
  · exact ⟨_, by rw [of_decide_eq_true h]⟩
  · cases h
structure Twk (mg : Str → Option Value) : Prop where
  all : mg "all" = none
def wayS (i j : Int) : Option Str := if i = 1 ∧ j = 0 then some "r" else if i = 0 ∧ j = 1 then some "u" else if i = -1 ∧ j = 0 then some "l" else if i = 0 ∧ j = -1 then some "d" else none
def wayV (i j : Int) : V := match wayS i j with
  | some s => .str s
  | none => .non
def hshII (i j : Int) : Int := reduceHash (Builtin.Tuple.tupleHashOf [hashInt i, hashInt j])
def wayE (K : PySem.W.Frag) (e : DictEntry) (i j : Int) (v : Str) : Bool := pairK K (some (some e.key)) i j && (strK (some (some e.val)) v && decide (e.hash = hshII i j))
def wayTab (K : PySem.W.Frag) (a : Addr) : Bool := match K.lookup a with
  | some ⟨.type c, none, .dict es _, sl⟩ => decide (c = "dict") && (sl.isEmpty && (!(a == sysModules) && (match es.toList with
    | [e0, e1, e2, e3] => wayE K e0 1 0 "r" && (wayE K e1 0 1 "u" && (wayE K e2 (-1) 0 "l" && wayE K e3 0 (-1) "d"))
    | _ => false)))
  | _ => false
/-- a written pair, in the heap itself -/
theorem pairK_at {K : PySem.W.Frag} {v : Value} {x y : Int} (h : pairK K (some (some v)) x y = true) : ∃ (t : Addr) (o : Obj) (its : Array Value) (n : Nat) (u1 u2 : Tok), v = .ref t ∧ K.lookup t = some o ∧ o.cls = .type "tuple" ∧ o.data = .seq its n ∧ its.toList = [.int x u1, .int y u2] := by
  unfold pairK at h
  split at h
  · rename_i a hv
    split at h
    · rename_i c dd its n sl e
      split at h
      · rename_i i t1 j t2 e2
        simp only [Bool.and_eq_true, decide_eq_true_eq] at h
        obtain ⟨rfl, rfl, rfl⟩ := h
        have hv : v = .ref a := Option.some.inj (Option.some.inj hv)
        exact ⟨a, _, its, n, t1, t2, hv, e, rfl, rfl, e2⟩
      · cases h
    · cases h
  · cases h
theorem key_at {P : Program} {w : World} {K : PySem.W.Frag} {v : Value} {x y : Int} (h : pairK K (some (some v)) x y = true) : ∃ t, v = .ref t ∧ ∀ hp : Heap, K.In hp → (tupleKind (mixKind P w)).is hp [.inl x, .inl y] t := by
  obtain ⟨t, o, its, n, u1, u2, rfl, l, c, d, e⟩ := pairK_at h
  refine ⟨t, rfl, fun hp X => ⟨o, its, n, X _ _ l, c, d, ?_⟩⟩
  rw [e]
  exact .cons (keyIs_int x u1) (.cons (keyIs_int y u2) .nil)
theorem wayE_of {P : Program} {w : World} {K : PySem.W.Frag} {e : DictEntry} {i j : Int} {v : Str} (h : wayE K e i j v = true) :
    ∃ (t : Addr) (u : Tok), e = entryOfKey (tupleKind (mixKind P w)) ([.inl i, .inl j], t, .str v u) ∧ ∀ hp : Heap, K.In hp → (tupleKind (mixKind P w)).is hp [.inl i, .inl j] t := by
  obtain ⟨eh, ek, ev⟩ := e
  unfold wayE at h
  simp only [Bool.and_eq_true, decide_eq_true_eq] at h
  obtain ⟨h1, h2, h3⟩ := h
  obtain ⟨t, et, k⟩ := key_at (P := P) (w := w) h1
  obtain ⟨u, eu⟩ := strK_of h2
  have eu : ev = .str v u := Option.some.inj (Option.some.inj eu)
  have et : ek = .ref t := et
  have h3 : eh = hshII i j := h3
  refine ⟨t, u, ?_, k⟩
  rw [eu, et, h3]
  rfl
theorem way_of {P : Program} {w : World} {K : PySem.W.Frag} {a : Addr} (h : wayTab K a = true) :
    (a == sysModules) = false ∧ ∃ (t0 t1 t2 t3 : Addr) (u0 u1 u2 u3 : Tok), ∀ hp : Heap, K.In hp → (∃ ob, hp.get? a = some ob ∧ ob.cls = .type "dict" ∧ ob.dict = none) ∧
      hp.DictOfH (tupleKind (mixKind P w)) a [([.inl 1, .inl 0], t0, .str "r" u0), ([.inl 0, .inl 1], t1, .str "u" u1), ([.inl (-1), .inl 0], t2, .str "l" u2), ([.inl 0, .inl (-1)], t3, .str "d" u3)] := by
  unfold wayTab at h
  split at h
  · rename_i c es n sl e
    simp only [Bool.and_eq_true, decide_eq_true_eq, Bool.not_eq_true'] at h
    obtain ⟨rfl, hsl, low, h⟩ := h
    split at h
    · rename_i e0 e1 e2 e3 el
      simp only [Bool.and_eq_true] at h
      obtain ⟨h0, h1, h2, h3⟩ := h
      obtain ⟨t0, u0, r0, k0⟩ := wayE_of (P := P) (w := w) h0
      obtain ⟨t1, u1, r1, k1⟩ := wayE_of (P := P) (w := w) h1
      obtain ⟨t2, u2, r2, k2⟩ := wayE_of (P := P) (w := w) h2
      obtain ⟨t3, u3, r3, k3⟩ := wayE_of (P := P) (w := w) h3
      have hs : sl = #[] := Array.isEmpty_iff.mp hsl
      refine ⟨low, t0, t1, t2, t3, u0, u1, u2, u3, fun hp X => ⟨⟨_, X _ _ e, rfl, rfl⟩, ⟨_, es, n, X _ _ e, ⟨rfl, rfl, hs⟩, rfl, ?_, ?_, ?_⟩⟩⟩
      · rw [el, r0, r1, r2, r3]
        rfl
      · intro x hx
        simp only [List.mem_cons, List.not_mem_nil, or_false] at hx
        rcases hx with rfl | rfl | rfl | rfl
        · exact k0 hp X
        · exact k1 hp X
        · exact k2 hp X
        · exact k3 hp X
      · show [[Sum.inl 1, Sum.inl 0], [Sum.inl 0, Sum.inl 1], [Sum.inl (-1), Sum.inl 0], [(Sum.inl 0 : L2.Key), Sum.inl (-1)]].Nodup
        decide
    · cases h
  · cases h
theorem key_ii {a b i j : Int} : ([Sum.inl a, Sum.inl b] : List L2.Key) = [Sum.inl i, Sum.inl j] ↔ (i = a ∧ j = b) := by
  constructor
  · intro h
    injection h with h1 h2
    injection h2 with h2 h3
    exact ⟨(Sum.inl.inj h1).symm, (Sum.inl.inj h2).symm⟩
  · rintro ⟨rfl, rfl⟩
    rfl
theorem at_way {t0 t1 t2 t3 : Addr} {u0 u1 u2 u3 : Tok} (i j : Int) :
    RelV (wayV i j) (((atKey [([(Sum.inl 1 : L2.Key), .inl 0], t0, Value.str "r" u0), ([.inl 0, .inl 1], t1, .str "u" u1), ([.inl (-1), .inl 0], t2, .str "l" u2), ([.inl 0, .inl (-1)], t3, .str "d" u3)] [.inl i, .inl j]).map (·.2)).getD .none) := by
  unfold wayV wayS atKey
  simp only [List.find?_cons, key_ii]
  by_cases c1 : i = 1 ∧ j = 0
  · rw [if_pos c1, decide_eq_true c1]
    exact ⟨u0, rfl⟩
  · rw [if_neg c1, decide_eq_false c1]
    by_cases c2 : i = 0 ∧ j = 1
    · rw [if_pos c2, decide_eq_true c2]
      exact ⟨u1, rfl⟩
    · rw [if_neg c2, decide_eq_false c2]
      by_cases c3 : i = -1 ∧ j = 0
      · rw [if_pos c3, decide_eq_true c3]
        exact ⟨u2, rfl⟩
      · rw [if_neg c3, decide_eq_false c3]
        by_cases c4 : i = 0 ∧ j = -1
        · rw [if_pos c4, decide_eq_true c4]
          exact ⟨u3, rfl⟩
        · rw [if_neg c4, decide_eq_false c4]
          rfl
def tWay (d : Addr) (td ty : TE) : TE := fun σ H Q => td σ H fun x H1 => x = .ref d ∧ ty σ H1 fun y H2 => ∃ b i j, y = .ref b ∧ H2 b = some (.tup [.int i, .int j]) ∧ Q (wayV i j) H2
theorem pe_way {X : Cx} {o e : Expr} {apos cpos : Pos} {td ty : TE} {d : Addr} (hu : X.A.units + 1 < cLine) (W : wayTab X.K d = true) (ho : PE X o td) (he : PE X e ty) (m : M1 X o "get" apos e cpos) : PE X (.Call (.Attribute o "get" apos) [e] [] cpos) (tWay d td ty) := by
  obtain ⟨low, t0, t1, t2, t3, u0, u1, u2, u3, dd⟩ := way_of (P := X.prog) (w := X.w) W
  refine ⟨fun pins s σ H Q I h => ?_⟩
  refine wpAny_Call_method m.base m.few m.line PySem.F.plainAttrs_dict PySem.F.slot_dict_get PySem.F.type_dict_get (thn (ho.run pins s σ H _ I h) fun u s1 ⟨x, H1, I1, rx, ex, q1⟩ => ?_)
  subst ex
  obtain rfl : u = Value.ref d := rx
  obtain ⟨⟨ob, g1, g2, g3⟩, _⟩ := dd s1.heap I1.kIn
  refine ⟨⟨ob, g1, g2⟩, fun b q => ?_, ?_⟩
  · cases q
    exact ⟨ob, g1, g3⟩
  rw [m.trees]
  refine Calls.callWith_builtin rfl (Calls.evalArgs_plain (Calls.spliced_cons (thn (he.run pins s1 σ H1 _ I1 q1) fun iv s2 ⟨y, H2, I2, ry, b, i, j, ey, hb, q2⟩ => Calls.spliced_nil ?_)))
  subst ey
  cases (show iv = Value.ref b from ry)
  obtain ⟨_, d2⟩ := dd s2.heap I2.kIn
  exact call_meetsIn PySem.F.slot_dict_get d2.typeIs PySem.F.entry_dict_get (PySem.F.args_dict_get_2 _ _) (meetsH_dict_get (tupleKind (mixKind X.prog X.w)) d b low)
    ⟨tupleKind_room_in1 hu, [.inl i, .inl j], _, key_of (ks := [.inl i, .inl j]) I2.hok hb, d2, ⟨wayV i j, H2, I2.tok _, at_way i j, q2⟩⟩
structure Ways (K : PySem.W.Frag) (mg : Str → Option Value) (a : Addr) : Prop where
  g : mg "WAYS" = some (.ref a)
  t : wayTab K a = true
def spWay : Sp := fun vs H Q _ => ∃ (v u : V) (i j k l : Int), vs = [v, u] ∧ DV H v (.tuple [.int i, .int j]) ∧ DV H u (.tuple [.int k, .int l]) ∧ ∀ H', Same H H' → Q (wayV (k - i) (l - j)) H'

/-- over zip of two tuples of one length -/
theorem lc_zipT {K : PySem.W.Frag} {a b : Addr} {xs ys : List V} {g : TG} {tt : TT} {te : TE} {vs : List Nat} {σ : L2.St} {H1 : Hp} {D : Addr} {Qd : Hp → Prop} (hl : xs.length = ys.length) (Pv : Nat → Hp → Prop) (h0 : Pv 0 (upd H1 D (.lst []))) (hq : ∀ i H, Pv i H → SqT K H a xs ∧ SqT K H b ys)
    (hs : ∀ (i : Nat) (x y : V) (T : Addr) (H : Hp), xs[i]? = some x → ys[i]? = some y → Pv i H → H T = none → g (.ref T) (wipe σ vs) (upd H T (.tup [x, y])) fun σ2 H2 => wipe σ2 vs = wipe σ vs ∧ tt σ2 H2 fun b H3 =>
      if b = true then te σ2 H3 fun y H4 => ∃ acc, H4 D = some (.lst acc) ∧ acc.length < sizeLine ∧ Pv (i + 1) (upd H4 D (.lst (acc ++ [y]))) else Pv (i + 1) H3) (hd : ∀ H, Pv xs.length H → Qd H) :
    ∃ W : Nat → Nat → Hp → Prop, (∃ m, W 0 m (upd H1 D (.lst []))) ∧ ∀ i m H, W i m H →
      ((RZ.ItzT K a b).stop i H ∧ Qd H) ∨ ((RZ.ItzT K a b).go i H ∧ ∃ Nx : Hp → Prop, (∀ H', Nx H' → ∃ m', m' < m ∧ W (i + 1) m' H') ∧ ∀ x H', (RZ.ItzT K a b).yld i H x H' → g x (wipe σ vs) H' fun σ2 H2 => wipe σ2 vs = wipe σ vs ∧ tt σ2 H2 fun b H3 =>
        if b = true then te σ2 H3 fun y H4 => ∃ acc, H4 D = some (.lst acc) ∧ acc.length < sizeLine ∧ Nx (upd H4 D (.lst (acc ++ [y]))) else Nx H3) := by
  refine ⟨fun i m H => m = xs.length - i ∧ i ≤ xs.length ∧ Pv i H, ⟨xs.length, rfl, Nat.zero_le _, h0⟩, ?_⟩
  rintro i m H ⟨rfl, hi, p⟩
  obtain ⟨qx, qy⟩ := hq i H p
  by_cases hlt : i < xs.length
  · have hx : xs[i]? = some xs[i] := List.getElem?_eq_getElem hlt
    have hlt2 : i < ys.length := by omega
    have hy : ys[i]? = some ys[i] := List.getElem?_eq_getElem hlt2
    refine .inr ⟨⟨xs, ys, _, _, qx, qy, hx, hy⟩, Pv (i + 1), fun H' p' => ⟨xs.length - (i + 1), by omega, rfl, hlt, p'⟩, fun v H' y => ?_⟩
    obtain ⟨T, x', y', rfl, hT, rfl, f1, f2⟩ := y
    exact hs i x' y' T H (f1 xs qx) (f2 ys qy) p hT
  · have e : i = xs.length := by omega
    subst e
    exact .inl ⟨⟨xs, ys, qx, qy, Or.inl (Nat.le_refl _)⟩, hd H p⟩
/-! ### walks, as data -/
def nbB (a b : PyData) : Bool := (wayS (xOf b - xOf a) (yOf b - yOf a)).isSome
def nbs : List PyData → List Bool
  | a :: b :: r => nbB a b :: nbs (b :: r)
  | _ => []
def walkB : PyData → Bool
  | .tuple ds => decide (2 ≤ ds.length) && (ds.all ptB && (nbs ds).all id)
  | _ => false
theorem nbs_len : ∀ l : List PyData, (nbs l).length = l.length - 1
  | [] => rfl
  | [_] => rfl
  | a :: b :: r => by
    show (nbs (b :: r)).length + 1 = _
    rw [nbs_len (b :: r)]
    simp
theorem nbs_at : ∀ {l : List PyData} {i : Nat} {a b : PyData}, l[i]? = some a → l[i + 1]? = some b → (nbs l)[i]? = some (nbB a b)
  | [], i, a, b, h, _ => by simp at h
  | [x], i, a, b, _, h => by simp at h
  | x :: y :: r, 0, a, b, h1, h2 => by
    simp at h1 h2
    subst h1 h2
    rfl
  | x :: y :: r, i + 1, a, b, h1, h2 => by
    show (nbs (y :: r))[i]? = _
    exact nbs_at (l := y :: r) (by simpa using h1) (by simpa using h2)
/-- what is asked whether it is a walk -/
inductive Wk (K : PySem.W.Frag) (H : Hp) : V → Option PyData → Prop
  | dat {v : V} {d : PyData} (dv : DV H v d) : Wk K H v (some d)
  | exc {a C : Addr} (x : XIn H a C) (c : XCls K C) (k : PySem.W.kitOne K (.ref C) (.type "tuple") = some false) : Wk K H (.ref a) none
def okW : Option PyData → Bool
  | some d => walkB d
  | none => false
theorem Wk.more {K : PySem.W.Frag} {H H' : Hp} {v : V} {o : Option PyData} (k : Same H H') (h : Wk K H v o) : Wk K H' v o := by
  cases h with
  | dat dv => exact .dat (dv.more k)
  | exc x c q => exact .exc (x.more k) c q
structure Tz (mg : Str → Option Value) : Prop where
  zip : mg "zip" = none
def spIW (K : PySem.W.Frag) : Sp := fun vs H Q _ => ∃ v o, vs = [v] ∧ Wk K H v o ∧ (∀ d, o = some d → ∀ ds, d = .tuple ds → ds.length ≤ 1000) ∧ ∀ H', Same H H' → Q (.bl (okW o)) H'
theorem cut_init (xs : List V) (h : 2 ≤ xs.length) : cutV xs none (some (-1)) = xs.take (xs.length - 1) ∧ ¬ (HT.sIx xs.length 0 none = 0 ∧ HT.sIx xs.length xs.length (some (-1)) = xs.length) := by
  have e : HT.sIx xs.length xs.length (some (-1)) = xs.length - 1 := by
    show (if (-1 : Int) < 0 then (-1 + (xs.length : Int)).toNat else min (-1 : Int).toNat xs.length) = _
    rw [if_pos (by decide)]
    omega
  refine ⟨?_, fun z => by rw [e] at z; omega⟩
  unfold cutV
  rw [e]
  rfl
theorem cut_tail (xs : List V) (h : 2 ≤ xs.length) : cutV xs (some 1) none = xs.drop 1 ∧ ¬ (HT.sIx xs.length 0 (some 1) = 0 ∧ HT.sIx xs.length xs.length none = xs.length) := by
  have e : HT.sIx xs.length 0 (some 1) = 1 := by
    show (if (1 : Int) < 0 then (1 + (xs.length : Int)).toNat else min (1 : Int).toNat xs.length) = 1
    rw [if_neg (by decide)]
    have : (1 : Int).toNat = 1 := rfl
    omega
  refine ⟨?_, fun z => by rw [e] at z; omega⟩
  unfold cutV
  rw [e]
  show (xs.drop 1).take (xs.length - 1) = xs.drop 1
  exact List.take_of_length_le (by rw [List.length_drop]; omega)
section
variable {P : Program} {w : World} {K : PySem.W.Frag} {mg : Str → Option Value} {base : Heap}
theorem scWB : FnScope ["point", "other", "x", "y", "far_x", "far_y"] ["point", "other"] (defScope (top 19)) := ⟨rfl, rfl, rfl, by decide +kernel, rfl, by decide +kernel, by decide +kernel⟩
theorem ok_way {f aW : Addr} {fd : FuncData} (F : Fun K "way_between" "way_between" (top 19) f fd) (W : Ways K mg aW) : FnOk P w K mg base CX0 1 f fd ["point", "other"] spWay := by
  refine F.ok scWB (fun vs H Q E h => by obtain ⟨v, u, i, j, k, l, rfl, _⟩ := h; rfl) (fun cdv A outer s H vs Q E hr h => ?_)
  obtain ⟨v, u, i, j, k, l, rfl, dv, du, q⟩ := h
  have hu : (A.deeper (envOfC "way_between" (defScope (top 19)) s.heap.objs.size f cdv)).units + 1 < cLine := by
    have := hr.un
    omega
  refine ⟨_, pss_cons (ps_asg (pe_tup (pa_cons (pv 0) (pa_cons (pv 1) pa_nil))) (pg_tup rfl (pgs_cons (pg_tup rfl (pgs_cons (pg_name (i := 2) scWB.nd rfl (Or.inl rfl)) (pgs_cons (pg_name (i := 3) scWB.nd rfl (Or.inl rfl)) pgs_nil))) (pgs_cons (pg_tup rfl (pgs_cons (pg_name (i := 4) scWB.nd rfl (Or.inl rfl)) (pgs_cons (pg_name (i := 5) scWB.nd rfl (Or.inl rfl)) pgs_nil))) pgs_nil))))
    (pss_one (ps_ret (pe_way hu W.t (pe_glob (v := .ref aW) rfl W.g rfl) (pe_tup (pa_cons (pe_op op_sub (pv 4) (pv 2)) (pa_cons (pe_op op_sub (pv 5) (pv 3)) pa_nil))) ⟨rfl, rfl, rfl, rfl⟩))), ?_⟩
  obtain ⟨a, rfl, ha⟩ := dv_pt dv
  obtain ⟨b, rfl, hb⟩ := dv_pt du
  refine ⟨_, rfl, _, rfl, (by show 2 ≤ sizeLine; decide), fun p hp => ?_⟩
  refine ⟨p, _, rfl, sqt upd_same, rfl, _, _, rfl, ⟨a, _, rfl, sqt (stay ha hp), rfl, _, _, rfl, _, _, rfl, rfl, ?_⟩⟩
  refine ⟨_, _, rfl, ⟨b, _, rfl, sqt (stay hb hp), rfl, _, _, rfl, _, _, rfl, rfl, rfl, ?_⟩⟩
  refine ⟨rfl, _, rfl, _, rfl, _, _, rfl, rfl, _, rfl, _, rfl, _, _, rfl, rfl, (by show 2 ≤ sizeLine; decide), fun p2 hp2 => ⟨p2, _, _, rfl, upd_same, ?_⟩⟩
  exact q _ fun b o e => stay (stay e hp) hp2

theorem scIW : FnScope ["value", "point", "other"] ["value"] (defScope (top 17)) := ⟨rfl, rfl, rfl, by decide +kernel, rfl, by decide +kernel, by decide +kernel⟩
theorem ok_iswalk {f fP fW : Addr} {fd fdP fdW : FuncData} (F : Fun K "is_walk" "is_walk" (top 17) f fd) (T : Ta mg) (U : Twk mg) (Z : Tz mg) (GP : FnOk P w K mg base CX0 3 fP fdP ["value"] (spB ptB)) (AP : At K mg "is_point" fP fdP ["value"])
    (GW : FnOk P w K mg base CX0 1 fW fdW ["point", "other"] spWay) (AW : At K mg "way_between" fW fdW ["point", "other"]) : FnOk P w K mg base CX0 4 f fd ["value"] (spIW K) := by
  refine F.ok scIW (fun vs H Q E h => by obtain ⟨v, o, rfl, _⟩ := h; rfl) (fun cdv A outer s H vs Q E hr h => ?_)
  obtain ⟨v, o, rfl, wk, lb, q⟩ := h
  refine ⟨_, (pss_cons (ps_if (PW.pt (pw_or (pt_not (pt_val (pe_callB (CallR.or call_isi call_isX) (by rfl) T.isi (by decide +kernel) (pa_cons (pv 0) (pa_cons (pe_bltn (v := .ty "tuple") (u := .type "tuple") (by rfl) T.tup (by decide +kernel) rfl) pa_nil))))) (pw_or (pt_cmpR op_lt (pe_callB call_len_seq (by rfl) T.len PySem.boot_len (pa_cons (pv 0) pa_nil)) pe_int (nomark _)) (pw_or1 (pt_not (pt_val (pe_callB (cr_all rfl) (by rfl) U.all (by decide +kernel) (pa_cons (pe_lc (own := [("point", 1)]) (g := gName 1) (tt := tYes) rfl scIW.nd (pi_tup (pv 0)) (blkOk_by (N := ["value", "point", "other"]) (sc := defScope (top 17)) (by decide +kernel)) (fun _ _ _ _ _ => pg_name (i := 1) scIW.nd rfl (Or.inl rfl)) (fun _ _ _ _ _ => pts_nil) (fun _ _ _ _ _ => (pe_call GP (hr.mono (by decide)) rfl AP.g AP.k AP.b .nil pass0 (pa_cons (pv 1) pa_nil)))) pa_nil)))))))) (pss_one (ps_ret pe_bl)) pss_nil)
    (pss_one (ps_ret (pe_callB (cr_all rfl) (by rfl) U.all (by decide +kernel) (pa_cons (pe_lc (own := [("point", 1), ("other", 2)]) (g := gTup K 2 (gCons (gName 1) (gCons (gName 2) gNil))) (tt := tYes) rfl scIW.nd (RZ.pi_zipA (by rfl) Z.zip (pa_cons (pe_slice sl_tup (pv 0) po_none (po_some (pe_un un_neg pe_int))) (pa_cons (pe_slice sl_tup (pv 0) (po_some pe_int) po_none) pa_nil))) (blkOk_by (N := ["value", "point", "other"]) (sc := defScope (top 17)) (by decide +kernel)) (fun _ _ _ _ _ => pg_tup rfl (pgs_cons (pg_name (i := 1) scIW.nd rfl (Or.inl rfl)) (pgs_cons (pg_name (i := 2) scIW.nd rfl (Or.inl rfl)) pgs_nil))) (fun _ _ _ _ _ => pts_nil) (fun _ _ _ _ _ => pe_cmpR op_notN (pe_call GW (hr.mono (by decide)) rfl AW.g AW.k AW.b .nil pass0 (pa_cons (pv 1) (pa_cons (pv 2) pa_nil))) pe_non (nomark _))) pa_nil))))), ?_⟩
  cases wk with
  | exc x c k => exact ⟨_, rfl, .inr ⟨_, _, _, .type "tuple", false, rfl, x, c, .ty _, k, _, rfl, q H fun _ _ e => e⟩⟩
  | @dat _ d dv =>
    refine ⟨_, rfl, .inl ⟨_, .ty "tuple", .type (tyN d), .type "tuple", _, rfl, .ty _, ty_of dv, kit_ty (kit_tuple d), _, rfl, ?_⟩⟩
    cases e : tupish d with
    | false =>
      have := q H fun _ _ e => e
      have e2 : okW (some d) = false := by
        cases d with
        | tuple ds => cases e
        | _ => rfl
      rwa [e2] at this
    | true =>
      obtain ⟨ds, rfl⟩ := tupish_of e
      obtain ⟨a, xs, rfl, h1, r⟩ := dv_tup dv
      have ln := r.length
      have lb := lb _ rfl _ rfl
      refine ⟨_, rfl, a, xs, rfl, .inr (sqt h1), _, _, rfl, rfl, _, rfl, ite2 (fun c1 => ?_) (fun c1 => ?_)⟩
      · have c1 : ¬ 2 ≤ ds.length := by
          have := of_decide_eq_true c1
          omega
        have := q H fun _ _ e => e
        rwa [show okW (some (.tuple ds)) = false from (by show (decide (2 ≤ ds.length) && _) = false; rw [decide_eq_false c1, Bool.false_and])] at this
      · have c1 : 2 ≤ ds.length := by
          have : ¬ ((xs.length : Int) < 2) := fun z => c1 (decide_eq_true z)
          omega
        have ew : okW (some (.tuple ds)) = (ds.all ptB && (nbs ds).all id) := by
          show (decide (2 ≤ ds.length) && _) = _
          rw [decide_eq_true c1, Bool.true_and]
        rw [ew] at q
        refine ⟨_, rfl, a, rfl, ⟨_, sqt h1⟩, fun Dd nD => lc_tup (K := K) (a := a) (xs := xs) (fun m H' => H' Dd = some (.lst (((ds.take m).map ptB).map V.bl)) ∧ Same H H') ⟨upd_same, fun b o e => stay e nD⟩ ?_ ?_ ?_⟩
        · rintro i H4 hi ⟨h4, s4⟩
          exact sqt (s4 _ _ h1)
        · rintro i x H4 hx ⟨h4, s4⟩
          obtain ⟨dx, hd, dvx⟩ := r.at i x hx
          refine ⟨rfl, _, rfl, x, dx, rfl, dvx.more s4, fun H5 s5 => ⟨_, s5 _ _ h4, ?_, ?_, ?_⟩⟩
          · rw [List.length_map, List.length_map, List.length_take]
            exact Nat.lt_of_le_of_lt (show min i ds.length ≤ 1001 by omega) (by decide)
          · rw [upd_same, List.take_add_one, hd]
            simp only [List.map_append, Option.toList_some, List.map_cons, List.map_nil]
          · intro b o e
            have ne : b ≠ Dd := fun y => by
              rw [y, nD] at e
              cases e
            rw [upd_ne ne]
            exact s5 b o (s4 b o e)
        · rintro H4 ⟨h4, s4⟩
          rw [ln, List.take_length] at h4
          refine ⟨Dd, ds.map ptB, rfl, SqL.of h4, _, rfl, ?_⟩
          have ea : (ds.map ptB).all id = ds.all ptB := by
            rw [List.all_map]
            rfl
          rw [ea]
          cases hall : ds.all ptB with
          | false =>
            rw [hall, Bool.false_and] at q
            exact q H4 s4
          | true =>
            rw [hall, Bool.true_and] at q
            have allp := List.all_eq_true.mp hall
            obtain ⟨ec1, en1⟩ := cut_init xs (by omega)
            obtain ⟨ec2, en2⟩ := cut_tail xs (by omega)
            refine ⟨_, rfl, 1, rfl, _, rfl, a, xs, rfl, sqt (s4 _ _ h1), en1, fun p1 n1 => ⟨_, rfl, _, rfl, a, xs, rfl, sqt (stay (s4 _ _ h1) n1), en2, fun p2 n2 => ?_⟩⟩
            rw [ec1] at n2
            rw [ec1, ec2]
            have s5 : Same H (upd (upd H4 p1 (.tup (xs.take (xs.length - 1)))) p2 (.tup (xs.drop 1))) := fun b o e => stay (stay (s4 b o e) n1) n2
            have hp1 : upd (upd H4 p1 (.tup (xs.take (xs.length - 1)))) p2 (.tup (xs.drop 1)) p1 = some (.tup (xs.take (xs.length - 1))) := stay upd_same n2
            have hp2 : upd (upd H4 p1 (.tup (xs.take (xs.length - 1)))) p2 (.tup (xs.drop 1)) p2 = some (.tup (xs.drop 1)) := upd_same
            generalize upd (upd H4 p1 (.tup (xs.take (xs.length - 1)))) p2 (.tup (xs.drop 1)) = H5 at s5 hp1 hp2
            have lt1 : (xs.take (xs.length - 1)).length = xs.length - 1 := by rw [List.length_take]; omega
            refine ⟨p1, p2, _, _, rfl, .inr ⟨sqt hp1, sqt hp2, fun D2 nD2 => lc_zipT (K := K) (a := p1) (b := p2) (xs := xs.take (xs.length - 1)) (ys := xs.drop 1) (by rw [lt1, List.length_drop]) (fun m H' => H' D2 = some (.lst (((nbs ds).take m).map V.bl)) ∧ Same H5 H') ⟨upd_same, fun b o e => stay e nD2⟩ ?_ ?_ ?_⟩⟩
            · rintro i H6 ⟨h6, s6⟩
              exact ⟨sqt (s6 _ _ hp1), sqt (s6 _ _ hp2)⟩
            · rintro i x y TT H6 hx hy ⟨h6, s6⟩ nT
              have hi : i < xs.length - 1 := by
                have := (List.getElem?_eq_some_iff.mp hx).1
                omega
              have hx : xs[i]? = some x := by
                rw [List.getElem?_take_of_lt hi] at hx
                exact hx
              have hy : xs[i + 1]? = some y := by
                rw [List.getElem?_drop, Nat.add_comm] at hy
                exact hy
              obtain ⟨dx, hdx, dvx⟩ := r.at i x hx
              obtain ⟨dy, hdy, dvy⟩ := r.at (i + 1) y hy
              obtain ⟨i1, j1, rfl, _⟩ := pt_of (allp dx (List.mem_of_getElem? hdx))
              obtain ⟨i2, j2, rfl, _⟩ := pt_of (allp dy (List.mem_of_getElem? hdy))
              have st6 : Same H (upd H6 TT (.tup [x, y])) := fun b o e => stay (s6 b o (s5 b o e)) nT
              refine ⟨TT, _, rfl, sqt upd_same, rfl, _, _, rfl, _, _, rfl, rfl, rfl, _, rfl, _, rfl, x, y, i1, j1, i2, j2, rfl, dvx.more st6, dvy.more st6, fun H7 s7 => ⟨rfl, _, s7 _ _ (stay h6 nT), ?_, ?_, ?_⟩⟩
              · rw [List.length_map, List.length_take]
                exact Nat.lt_of_le_of_lt (show min i (nbs ds).length ≤ 1001 by omega) (by decide)
              · rw [upd_same, List.take_add_one, nbs_at hdx hdy]
                have en : (!decide (wayV (i2 - i1) (j2 - j1) = .non)) = nbB (.tuple [.int i1, .int j1]) (.tuple [.int i2, .int j2]) := by
                  show _ = (wayS (i2 - i1) (j2 - j1)).isSome
                  unfold wayV
                  cases wayS (i2 - i1) (j2 - j1) <;> rfl
                rw [en]
                simp only [List.map_append, Option.toList_some, List.map_cons, List.map_nil]
              · intro b o e
                have ne : b ≠ D2 := fun y => by
                  rw [y, nD2] at e
                  cases e
                rw [upd_ne ne]
                exact s7 b o (stay (s6 b o e) nT)
            · rintro H6 ⟨h6, s6⟩
              rw [lt1, List.take_of_length_le (by rw [nbs_len]; omega)] at h6
              exact ⟨D2, nbs ds, rfl, SqL.of h6, q H6 fun b o e => s6 b o (s5 b o e)⟩
end
end Y1
set_option Elab.async false
set_option linter.all false
set_option maxRecDepth 100000
set_option maxHeartbeats 4000000
/-! max of a tuple of two ints. -/
namespace Nv
open PySem PySem.Spec PyProof.Rows L2
theorem alike_int2 (i j : Int) : PySem.W.AlikeAll [.int i, .int j] := by
  constructor
  · intro x hx y hy
    simp only [List.mem_cons, List.not_mem_nil, or_false] at hx hy
    rcases hx with rfl | rfl <;> rcases hy with rfl | rfl <;> simp [PySem.W.alike, PySem.W.alikeAll]
  · intro x hx
    simp only [List.mem_cons, List.not_mem_nil, or_false] at hx
    rcases hx with rfl | rfl <;> exact fun h => nomatch h
section
variable {X : Cx}
def rMaxT2 : List V → Hp → VK → Prop := fun vs H Q => ∃ (a : Addr) (i j : Int), vs = [V.ref a] ∧ H a = some (.tup [.int i, .int j]) ∧ Q (.int (max i j)) H
theorem cr_maxT2 (hc : X.calm = true) (hu : X.A.units + 100 < cLine) : CallR X (.builtin "max") rMaxT2 := by
  intro pins s σ H vs us Q I r h
  obtain ⟨a, i, j, rfl, ha, q⟩ := h
  obtain ⟨its, rv, ht, _⟩ := I.tuple (SqT.of (K := X.K) ha)
  rw [Vals.ref1 r]
  obtain ⟨u, y, ei, ru, ry⟩ := vals2 rv
  subst ei
  obtain ⟨t1, rfl⟩ := (show ∃ t, u = Value.int i t from ru)
  obtain ⟨t2, rfl⟩ := (show ∃ t, y = Value.int j t from ry)
  have hl : s.heap.IsTuple a (#[Value.int i t1, Value.int j t2] : Array Value) := by
    obtain ⟨o, ho, hc, n, hd⟩ := ht
    exact ⟨o, ho, hc, n, by simpa using hd⟩
  refine PySem.W.max_tuple_data (x := .int i) (xs := [.int j]) (as := []) (I.ok.hd hc) hl (.cons (.int i t1) (.cons (.int j t2) .nil)) (alike_int2 i j) (by simp only [PyData.depthAll, PyData.depth]; omega) fun k v h' tk bs hv rm hk => ?_
  have e := PySem.W.maxD_ints i [j]
  rw [show [j].map PyData.int = [.int j] from rfl] at e
  rw [e] at rm
  cases rm with
  | int _ t => exact ⟨.int _, H, I.kept hk, ⟨_, rfl⟩, q⟩
end
end Nv
set_option Elab.async false
set_option linter.all false
set_option maxRecDepth 100000
set_option maxHeartbeats 16000000
/-! Expressions that make data. -/
namespace Y1
open PySem PySem.Spec PyProof.Rows L2 Nv
theorem ptP_imm (p : Pt) : imm (ptP p) = true := by simp [ptP, imm, imms]
theorem imms_ps : ∀ ps : List Pt, imms (ps.map ptP) = true
  | [] => by simp [imms]
  | e :: r => by simp [imms, ptP_imm, imms_ps r]
/-- from H0 on the expression makes the datum d, and changes nothing -/
def Mak (σ : L2.St) (H0 : Hp) (t : TE) (d : PyData) : Prop := ∀ (H : Hp) (Q : VK), Same H0 H → (∀ v H', Same H H' → DV H' v d → Q v H') → t σ H Q
def MakA (σ : L2.St) (H0 : Hp) (t : TA) (ds : List PyData) : Prop := ∀ (H : Hp) (Q : List V → Hp → Prop), Same H0 H → (∀ vs H', Same H H' → DVs H' vs ds → Q vs H') → t σ H Q
theorem same_tr {a b c : Hp} (h : Same a b) (k : Same b c) : Same a c := fun x o e => k _ _ (h _ _ e)
section
variable {σ : L2.St} {H0 : Hp}
theorem mak_nil : MakA σ H0 tNil [] := fun H Q s q => q [] H (same0 H) .nil
theorem mak_cons {t : TE} {ts : TA} {d : PyData} {ds : List PyData} (h : Mak σ H0 t d) (k : MakA σ H0 ts ds) : MakA σ H0 (tCons t ts) (d :: ds) := fun H Q s q =>
  h H _ s fun v H1 s1 dv => k H1 _ (same_tr s s1) fun vs H2 s2 dvs => q (v :: vs) H2 (same_tr s1 s2) (.cons (dv.more s2) dvs)
theorem mak_tup {ts : TA} {ds : List PyData} (h : MakA σ H0 ts ds) (l : ds.length ≤ sizeLine := by exact Nat.le_of_ble_eq_true rfl) : Mak σ H0 (tTup ts) (.tuple ds) := fun H Q s q =>
  h H _ s fun vs H1 s1 dvs => ⟨by rw [dvs.length]; exact l, fun p np => by
    have s2 : Same H1 (upd H1 p (.tup vs)) := fun b o e => stay e np
    exact q _ _ (same_tr s1 s2) (.tup upd_same (dvs.more s2))⟩
theorem mak_lst {ts : TA} {ds : List PyData} (h : MakA σ H0 ts ds) (l : ds.length ≤ sizeLine := by exact Nat.le_of_ble_eq_true rfl) : Mak σ H0 (tLst ts) (.list ds) := fun H Q s q =>
  h H _ s fun vs H1 s1 dvs => ⟨by rw [dvs.length]; exact l, fun p np => by
    have s2 : Same H1 (upd H1 p (.lst vs)) := fun b o e => stay e np
    exact q _ _ (same_tr s1 s2) (.lst upd_same (dvs.more s2))⟩
theorem mak_var {i : Nat} {v : V} {d : PyData} (h : σ[i]? = some (some v)) (dv : DV H0 v d) : Mak σ H0 (tVar i) d := fun H Q s q => ⟨v, h, q v H (same0 H) (dv.more s)⟩
theorem mak_str {z : Str} : Mak σ H0 (tC (.str z)) (.str z) := fun H Q s q => q _ H (same0 H) (.str z)
theorem mak_int {i : Int} : Mak σ H0 (tC (.int i)) (.int i) := fun H Q s q => q _ H (same0 H) (.int i)
theorem mak_non : Mak σ H0 (tC .non) .none := fun H Q s q => q _ H (same0 H) .non
theorem mak_bl {b : Bool} : Mak σ H0 (tC (.bl b)) (.bool b) := fun H Q s q => q _ H (same0 H) (.bl b)
theorem mak_op {t1 t2 : TE} {g : Int → Int → Int} {i j : Int} (h : Mak σ H0 t1 (.int i)) (k : Mak σ H0 t2 (.int j)) : Mak σ H0 (tOp (rI0 fun i j => V.int (g i j)) t1 t2) (.int (g i j)) := fun H Q s q =>
  h H _ s fun v H1 s1 dv => k H1 _ (same_tr s s1) fun u H2 s2 du => by
    cases dv
    cases du
    exact ⟨_, _, rfl, rfl, q _ H2 (same_tr s1 s2) (.int _)⟩
theorem dv_lst {H : Hp} {v : V} {ds : List PyData} (h : DV H v (.list ds)) : ∃ a xs, v = .ref a ∧ H a = some (.lst xs) ∧ DVs H xs ds := by
  cases h with
  | lst h r => exact ⟨_, _, rfl, h, r⟩
theorem mak_cat {t1 t2 : TE} {ds es : List PyData} (h : Mak σ H0 t1 (.list ds)) (k : Mak σ H0 t2 (.list es)) (l : ds.length + es.length ≤ sizeLine := by exact Nat.le_of_ble_eq_true rfl) : Mak σ H0 (tOp rCat t1 t2) (.list (ds ++ es)) := fun H Q s q =>
  h H _ s fun v H1 s1 dv => k H1 _ (same_tr s s1) fun u H2 s2 du => by
    obtain ⟨a, xs, rfl, ha, ra⟩ := dv_lst dv
    obtain ⟨b, ys, rfl, hb, rb⟩ := dv_lst du
    refine ⟨_, _, _, _, rfl, rfl, s2 _ _ ha, hb, by rw [ra.length, rb.length]; exact l, fun p np => ?_⟩
    have s3 : Same H2 (upd H2 p (.lst (xs ++ ys))) := fun b o e => stay e np
    exact q _ _ (same_tr (same_tr s1 s2) s3) (.lst upd_same (dvs_app ((ra.more s2).more s3) (rb.more s3)))
end
theorem mak_go {σ : L2.St} {H : Hp} {Q : VK} {t : TE} (d : PyData) (h : Mak σ H t d) (q : ∀ v H', Same H H' → DV H' v d → Q v H') : t σ H Q := h H Q (same0 H) q
theorem ifs_i {t : TT} {a b : TS} {D : Ends} {σ : L2.St} {H : Hp} (h : t σ H fun c H1 => if c = true then a D σ H1 else b D σ H1) : tIfS t a b D σ H := h
theorem test_i {te : TE} {σ : L2.St} {H : Hp} {Q : Bool → Hp → Prop} (h : te σ H fun x H1 => ∃ k, x = .bl k ∧ Q k H1) : tTest te σ H Q := h
theorem or_i {t u : TT} {σ : L2.St} {H : Hp} {Q : Bool → Hp → Prop} (h : t σ H fun c H1 => if c = true then Q true H1 else u σ H1 Q) : tOr t u σ H Q := h
theorem var_i {i : Nat} {v : V} {σ : L2.St} {H : Hp} {Q : VK} (hi : σ[i]? = some (some v)) (h : Q v H) : tVar i σ H Q := ⟨v, hi, h⟩
section
variable {σ : L2.St} {H0 : Hp}
theorem mak_ix {K : PySem.W.Frag} {t : TE} {ds : List PyData} {k : Nat} {d : PyData} (h : Mak σ H0 t (.tuple ds)) (hk : ds[k]? = some d) : Mak σ H0 (tOp (rIxT K) t (tC (.int (k : Int)))) d := fun H Q s q =>
  h H _ s fun v H1 s1 dv => by
    obtain ⟨a, xs, rfl, ha, dx⟩ := dv_tup dv
    have hl : k < xs.length := by
      rw [dx.length]
      exact (List.getElem?_eq_some_iff.mp hk).1
    obtain ⟨d', hd', dk⟩ := dx.at k xs[k] (List.getElem?_eq_getElem hl)
    rw [hk] at hd'
    cases hd'
    exact ⟨a, xs, (k : Int), xs[k], rfl, rfl, SqT.of ha, atI_nat (List.getElem?_eq_getElem hl), q _ H1 s1 dk⟩
end
/-- from H0 on the test tells b, and changes nothing -/
def MakT (σ : L2.St) (H0 : Hp) (t : TT) (b : Bool) : Prop := ∀ (H : Hp) (R : Bool → Hp → Prop), Same H0 H → (∀ H', Same H H' → R b H') → t σ H R
theorem mkt_yes {σ : L2.St} {H0 : Hp} : MakT σ H0 tYes true := fun H R s q => q H (same0 H)
theorem mkt_test {σ : L2.St} {H0 : Hp} {te : TE} {b : Bool} (h : Mak σ H0 te (.bool b)) : MakT σ H0 (tTest te) b := fun H R s q =>
  h H _ s fun v H' s' dv => by
    cases dv
    exact ⟨b, rfl, q H' s'⟩
theorem mkt_tB {σ : L2.St} {H0 : Hp} {te : TE} {b : Bool} (h : Mak σ H0 te (.bool b)) : MakT σ H0 (tB te) b := fun H R s q =>
  h H _ s fun v H' s' dv => by
    cases dv
    exact ⟨b, rfl, q H' s'⟩
theorem mkt_and {σ : L2.St} {H0 : Hp} {t u : TT} {a b : Bool} (h : MakT σ H0 t a) (k : a = true → MakT σ H0 u b) : MakT σ H0 (tAnd t u) (a && b) := fun H R s q =>
  h H _ s fun H1 s1 => by
    cases a with
    | true => exact k rfl H1 _ (same_tr s s1) fun H2 s2 => q H2 (same_tr s1 s2)
    | false => exact q H1 s1
theorem mkt_or {σ : L2.St} {H0 : Hp} {t u : TT} {a b : Bool} (h : MakT σ H0 t a) (k : a = false → MakT σ H0 u b) : MakT σ H0 (tOr t u) (a || b) := fun H R s q =>
  h H _ s fun H1 s1 => by
    cases a with
    | true => exact q H1 s1
    | false => exact k rfl H1 _ (same_tr s s1) fun H2 s2 => q H2 (same_tr s1 s2)
theorem mkt_not {σ : L2.St} {H0 : Hp} {t : TT} {a : Bool} (h : MakT σ H0 t a) : MakT σ H0 (tNot t) (!a) := fun H R s q => h H _ s fun H1 s1 => q H1 s1
theorem mkt_go {σ : L2.St} {H : Hp} {t : TT} {R : Bool → Hp → Prop} (b : Bool) (h : MakT σ H t b) (q : ∀ H', Same H H' → R b H') : t σ H R := h H R (same0 H) q
theorem Mak.up {σ : L2.St} {H0 H1 : Hp} {t : TE} {d : PyData} (h : Mak σ H0 t d) (s : Same H0 H1) : Mak σ H1 t d := fun H Q s1 q => h H Q (same_tr s s1) q
/-- [f(x) for x in a list if pr(x)], over data -/
theorem mak_lc {K : PySem.W.Frag} {σ : L2.St} {H0 : Hp} {tl : TE} {g : TG} {tt : TT} {te : TE} {vs : List Nat} {ds : List PyData} (pr : PyData → Bool) (f : PyData → PyData) (h : Mak σ H0 tl (.list ds)) (small : ds.length ≤ 100000) (im : ∀ d ∈ ds, imm (f d) = true)
    (step : ∀ (H : Hp) (x : V) (d : PyData), Same H0 H → d ∈ ds → DV H x d → ∃ σ2, wipe σ2 vs = wipe σ vs ∧ (∀ Q, Q σ2 H → g x (wipe σ vs) H Q) ∧ MakT σ2 H tt (pr d) ∧ (pr d = true → Mak σ2 H te (f d))) :
    Mak σ H0 (tLc (iList K tl) g tt te vs) (.list ((ds.filter pr).map f)) := fun H Q s q =>
  h H _ s fun v H1 s1 dv => by
    obtain ⟨a, xs, rfl, ha, dx⟩ := dv_lst dv
    refine ⟨a, rfl, ⟨_, SqL.of ha⟩, fun D nD => ?_⟩
    have nDH : ∀ b o, H1 b = some o → b ≠ D := fun b o e z => by rw [z, nD] at e; cases e
    refine lc_list (K := K) (xs := xs) (fun i H' => Same H1 H' ∧ ∃ acc, H' D = some (.lst acc) ∧ DVs H' acc (((ds.take i).filter pr).map f)) ⟨fun b o e => stay e nD, [], upd_same, .nil⟩ (fun i H' _ z => SqL.of (z.1 _ _ ha)) ?_ ?_
    · rintro i y H' hy ⟨sm, acc, hD, dacc⟩
      obtain ⟨d, hd, dy⟩ := dx.at i y hy
      have st : ds.take (i + 1) = ds.take i ++ [d] := by rw [List.take_add_one, hd]; rfl
      have md := List.mem_of_getElem? hd
      obtain ⟨σ2, hw, hg, ht, he⟩ := step H' y d (same_tr s (same_tr s1 sm)) md (dy.more sm)
      refine hg _ ⟨hw, ht H' _ (same0 _) fun H2 s2 => ?_⟩
      by_cases m : pr d = true
      · rw [if_pos m]
        refine he m H2 _ s2 fun z H3 s3 dz => ?_
        have hD3 := s3 _ _ (s2 _ _ hD)
        have im2 : imms (((ds.take i).filter pr).map f) = true := imms_all fun z hz => by
          obtain ⟨x, hx, rfl⟩ := List.mem_map.mp hz
          exact im x (List.mem_of_mem_take (List.mem_filter.mp hx).1)
        refine ⟨acc, hD3, ?_, fun b o e => by rw [upd_ne (nDH b o e)]; exact s3 _ _ (s2 _ _ (sm b o e)), acc ++ [z], upd_same, ?_⟩
        · rw [dacc.length, List.length_map]
          have l1 := List.length_filter_le pr (ds.take i)
          rw [List.length_take] at l1
          exact Nat.lt_of_le_of_lt (show _ ≤ 100000 by omega) (by decide)
        · rw [st, List.filter_append, List.map_append, List.filter_cons, if_pos m]
          have tk : Tk H3 (upd H3 D (.lst (acc ++ [z]))) := but_tk but_upd fun ws e => by rw [hD3] at e; cases e
          exact dvs_app (dvs_tk tk ((dacc.more s2).more s3) im2) (.cons (dv_tk tk dz (im d md)) .nil)
      · rw [if_neg m]
        refine ⟨same_tr sm s2, acc, s2 _ _ hD, ?_⟩
        rw [st, List.filter_append, List.filter_cons, if_neg m, List.filter_nil, List.append_nil]
        exact dacc.more s2
    · rintro H' ⟨sm, acc, hD, dacc⟩
      rw [dx.length, List.take_length] at dacc
      exact q _ H' (same_tr s1 sm) (.lst hD dacc)
def egOf : PyData → Eg
  | .tuple [.tuple [.int a, .int b], .tuple [.int c, .int d]] => ((a, b), (c, d))
  | _ => ((0, 0), (0, 0))
theorem egOf_eP (e : Eg) : egOf (eP e) = e := rfl
section
variable {K : PySem.W.Frag} {w : World} {σ : L2.St} {H0 : Hp}
theorem mak_inE {t : TE} {j : Nat} {u : V} {e : Eg} {es : List Eg} (h : Mak σ H0 t (eP e)) (hj : σ[j]? = some (some u)) (du : DV H0 u (.list (es.map eP))) : Mak σ H0 (tOp (rInD K) t (tVar j)) (.bool (decide (e ∈ es))) := fun H Q s q =>
  h H _ s fun v H1 s1 dv => by
    obtain ⟨a, xs, rfl, ha, dx⟩ := dv_lst du
    refine ⟨_, hj, eP e, es.map eP, dp_of dv (eP_imm _), .lst (SqL.of (s1 _ _ (s _ _ ha))) (dps_of ((dx.more s).more s1) (imms_es _)), shaped_eP _, shaped_es _, ?_⟩
    rw [any_eP]
    exact q _ H1 s1 (.bl _)
theorem mak_ninE {t : TE} {j : Nat} {u : V} {e : Eg} {es : List Eg} (h : Mak σ H0 t (eP e)) (hj : σ[j]? = some (some u)) (du : DV H0 u (.list (es.map eP))) : Mak σ H0 (tOp (rNotInD K) t (tVar j)) (.bool (!decide (e ∈ es))) := fun H Q s q =>
  h H _ s fun v H1 s1 dv => by
    obtain ⟨a, xs, rfl, ha, dx⟩ := dv_lst du
    refine ⟨_, hj, eP e, es.map eP, dp_of dv (eP_imm _), .lst (SqL.of (s1 _ _ (s _ _ ha))) (dps_of ((dx.more s).more s1) (imms_es _)), shaped_eP _, shaped_es _, ?_⟩
    rw [any_eP]
    exact q _ H1 s1 (.bl _)
theorem mak_neB {t1 t2 : TE} {a b : Bool} (h : Mak σ H0 t1 (.bool a)) (k : Mak σ H0 t2 (.bool b)) : Mak σ H0 (tOp (rNeD K) t1 t2) (.bool (a != b)) := fun H Q s q =>
  h H _ s fun v H1 s1 dv => k H1 _ (same_tr s s1) fun u H2 s2 du => by
    cases dv
    cases du
    refine ⟨.bool a, .bool b, .bl a, .bl b, by simp [SeqAt.shaped, PyData.canLay0, PyData.depth], by simp [SeqAt.shaped, PyData.canLay0, PyData.depth], ?_⟩
    have e : (!PyData.eqv (.bool a) (.bool b)) = (a != b) := by cases a <;> cases b <;> rfl
    rw [e]
    exact q _ H2 (same_tr s1 s2) (.bl _)
theorem mak_srtE {t : TE} {es : List Eg} (h : Mak σ H0 t (.list (es.map eP))) (l : es.length ≤ 1000) : Mak σ H0 (tCB (rSortDat K eP) (tCons t tNil)) (.list ((srt es).map eP)) := fun H Q s q =>
  h H _ s fun v H1 s1 dv => by
    obtain ⟨a, xs, rfl, ha, dx⟩ := dv_lst dv
    refine ⟨a, xs, es, rfl, SqL.of ha, dx, alike_es _, sortable_es _, l, fun p _ => (by show 2 ≤ 60; decide), fun ys z dys nz => ?_⟩
    have s3 : Same H1 (upd H1 z (.lst ys)) := fun b o e => stay e nz
    exact q _ _ (same_tr s1 s3) (.lst upd_same (dys.more s3))
/-- [e for e in edges if q(e)] -/
theorem mak_sel {tl : TE} {tt : TT} {i : Nat} {es : List Eg} (q : Eg → Bool) (h : Mak σ H0 tl (.list (es.map eP))) (small : es.length ≤ 1000) (li : i < σ.length)
    (step : ∀ (H : Hp) (x : V) (e : Eg), Same H0 H → e ∈ es → DV H x (eP e) → MakT ((wipe σ [i]).set i (some x)) H tt (q e)) :
    Mak σ H0 (tLc (iList K tl) (gName i) tt (tVar i) [i]) (.list ((es.filter q).map eP)) := by
  have base := mak_lc (K := K) (g := gName i) (tt := tt) (te := tVar i) (vs := [i]) (fun d => q (egOf d)) (fun d => d) h (by rw [List.length_map]; omega) (fun d hd => by
    obtain ⟨e, _, rfl⟩ := List.mem_map.mp hd
    exact eP_imm e) (fun H x d s hd dv => by
    obtain ⟨e, he, rfl⟩ := List.mem_map.mp hd
    have li' : i < (wipe σ [i]).length := by rw [L2.wipe_length]; exact li
    refine ⟨(wipe σ [i]).set i (some x), ?_, fun Q z => z, step H x e s he dv, fun _ => mak_var (List.getElem?_set_self li') dv⟩
    show ((σ.set i none).set i _).set i none = σ.set i none
    rw [List.set_set, List.set_set])
  have e : ((es.map eP).filter fun d => q (egOf d)).map (fun d => d) = (es.filter q).map eP := by
    rw [List.map_id', List.filter_map]
    rfl
  rw [e] at base
  exact base
end
end Y1
set_option Elab.async false
set_option linter.all false
set_option maxRecDepth 100000
set_option maxHeartbeats 16000000
/-! step_number, held_by. -/
namespace Y1
open PySem PySem.Spec PyProof.Rows L2 Nv
def mn (a b : Int) : Int := if b < a then b else a
def stepN (i j k l : Int) : Int := 2 * (31 * mn i k + mn j l) + (if k - i < 0 then -(k - i) else k - i)
structure Tst (mg : Str → Option Value) : Prop where
  side : ∃ t, mg "SIDE" = some (.int 31 t)
  min : mg "min" = none
  abs : mg "abs" = none
def spSn : Sp := fun vs H Q _ => ∃ (v u : V) (i j k l : Int), vs = [v, u] ∧ DV H v (.tuple [.int i, .int j]) ∧ DV H u (.tuple [.int k, .int l]) ∧ ∀ H', Same H H' → Q (.int (stepN i j k l)) H'
section
variable {P : Program} {w : World} {K : PySem.W.Frag} {mg : Str → Option Value} {base : Heap}
theorem scSn : FnScope ["point", "other", "x", "y", "far_x", "far_y"] ["point", "other"] (defScope (top 18)) := ⟨rfl, rfl, rfl, by decide +kernel, rfl, by decide +kernel, by decide +kernel⟩
theorem ok_sn {f : Addr} {fd : FuncData} (F : Fun K "step_number" "step_number" (top 18) f fd) (T : Tst mg) : FnOk P w K mg base CX0 1 f fd ["point", "other"] spSn := by
  refine F.ok scSn (fun vs H Q E h => by obtain ⟨v, u, i, j, k, l, rfl, _⟩ := h; rfl) (fun cdv A outer s H vs Q E hr h => ?_)
  obtain ⟨v, u, i, j, k, l, rfl, dv, du, q⟩ := h
  obtain ⟨tS, hS⟩ := T.side
  refine ⟨_, pss_cons (ps_asg (pe_tup (pa_cons (pv 0) (pa_cons (pv 1) pa_nil))) (pg_tup rfl (pgs_cons (pg_tup rfl (pgs_cons (pg_name (i := 2) scSn.nd rfl (Or.inl rfl)) (pgs_cons (pg_name (i := 3) scSn.nd rfl (Or.inl rfl)) pgs_nil))) (pgs_cons (pg_tup rfl (pgs_cons (pg_name (i := 4) scSn.nd rfl (Or.inl rfl)) (pgs_cons (pg_name (i := 5) scSn.nd rfl (Or.inl rfl)) pgs_nil))) pgs_nil))))
    (pss_one (ps_ret (pe_op op_add (pe_op op_mul pe_int (pe_op op_add (pe_op op_mul (pe_glob (v := .int 31) rfl hS ⟨_, rfl⟩) (pe_callB (call_min2 rfl) (by rfl) T.min (by decide +kernel) (pa_cons (pv 2) (pa_cons (pv 4) pa_nil)))) (pe_callB (call_min2 rfl) (by rfl) T.min (by decide +kernel) (pa_cons (pv 3) (pa_cons (pv 5) pa_nil))))) (pe_callB call_abs (by rfl) T.abs (by decide +kernel) (pa_cons (pe_op op_sub (pv 4) (pv 2)) pa_nil))))), ?_⟩
  obtain ⟨a, rfl, ha⟩ := dv_pt dv
  obtain ⟨b, rfl, hb⟩ := dv_pt du
  refine ⟨_, rfl, _, rfl, (by show 2 ≤ sizeLine; decide), fun p hp => ?_⟩
  refine ⟨p, _, rfl, sqt upd_same, rfl, _, _, rfl, ⟨a, _, rfl, sqt (stay ha hp), rfl, _, _, rfl, _, _, rfl, rfl, ?_⟩⟩
  refine ⟨_, _, rfl, ⟨b, _, rfl, sqt (stay hb hp), rfl, _, _, rfl, _, _, rfl, rfl, rfl, ?_⟩⟩
  exact ⟨_, rfl, _, rfl, _, _, rfl, _, _, rfl, rfl, .inl ⟨by decide, by decide⟩, _, rfl, _, rfl, _, _, rfl, _, _, rfl, rfl, _, _, rfl, rfl, .inl ⟨by decide, by decide⟩, _, rfl, _, rfl, _, _, rfl, rfl, _, rfl, _, _, rfl, rfl, q _ fun b o e => stay e hp⟩
end
end Y1
set_option Elab.async false
set_option linter.all false
set_option maxRecDepth 100000
set_option maxHeartbeats 16000000
/-! held_by; a step on the paper and its edge. -/
namespace Y1
open PySem PySem.Spec PyProof.Rows L2 Nv
def spHb (CF : Addr) : Sp := fun vs H Q _ => ∃ x es, vs = [.ref x] ∧ FigE CF H x es ∧ ∀ h kvs, H h = some (.dK kvs) → EntL H kvs es → Q (.ref h) H
section
variable {P : Program} {w : World} {K : PySem.W.Frag} {mg : Str → Option Value} {base : Heap} {CF CH : Addr}
theorem scHb : FnScope ["figure"] ["figure"] (defScope (top 25)) := ⟨rfl, rfl, rfl, by decide +kernel, rfl, by decide +kernel, by decide +kernel⟩
theorem ok_hb {f : Addr} {fd : FuncData} (F : Fun K "held_by" "held_by" (top 25) f fd) (Z : Kf K mg CF CH) : FnOk P w K mg base CX0 1 f fd ["figure"] (spHb CF) := by
  refine F.ok scHb (fun vs H Q E h => by obtain ⟨x, es, rfl, _⟩ := h; rfl) (fun cdv A outer s H vs Q E hr h => ?_)
  obtain ⟨x, es, rfl, ⟨kvs, ⟨dx, tt, hh, h1, h2, h3⟩, en, as, ed⟩, q⟩ := h
  refine ⟨_, pss_one (ps_ret (pe_fld (pv 0) (by rfl))), ?_⟩
  exact ⟨_, rfl, x, CF, dx, _, .ref hh, rfl, h1, Z.cls, Z.nH, rfl, q hh kvs h3 en⟩
end
/-- the edge of a step -/
def edOf (p q : Pt) : Eg := if q.1 < p.1 ∨ (q.1 = p.1 ∧ q.2 < p.2) then (q, p) else (p, q)
theorem step_edge {p q : Pt} (hp : onP p = true) (hq : onP q = true) (n : (wayS (q.1 - p.1) (q.2 - p.2)).isSome = true) : edB (edOf p q) = true ∧ enum (edOf p q) = stepN p.1 p.2 q.1 q.2 := by
  obtain ⟨x, y⟩ := p
  obtain ⟨u, v⟩ := q
  simp only [onP, Bool.and_eq_true, decide_eq_true_eq] at hp hq
  unfold wayS at n
  dsimp only at *
  have c : (u = x + 1 ∧ v = y) ∨ (u = x ∧ v = y + 1) ∨ (u = x - 1 ∧ v = y) ∨ (u = x ∧ v = y - 1) := by
    split at n
    · omega
    · split at n
      · omega
      · split at n
        · omega
        · split at n
          · omega
          · cases n
  rcases c with ⟨rfl, rfl⟩ | ⟨rfl, rfl⟩ | ⟨rfl, rfl⟩ | ⟨rfl, rfl⟩
  · have e : edOf (x, v) (x + 1, v) = ((x, v), (x + 1, v)) := if_neg (by dsimp only; omega)
    rw [e]
    refine ⟨ed_right (by omega) (by omega) (by omega) (by omega), ?_⟩
    simp only [enum, stepN, mn]
    split <;> split <;> split <;> omega
  · have e : edOf (u, y) (u, y + 1) = ((u, y), (u, y + 1)) := if_neg (by dsimp only; omega)
    rw [e]
    refine ⟨ed_up (by omega) (by omega) (by omega) (by omega), ?_⟩
    simp only [enum, stepN, mn]
    split <;> split <;> split <;> omega
  · have e : edOf (x, v) (x - 1, v) = ((x - 1, v), (x, v)) := if_pos (by dsimp only; omega)
    rw [e]
    have r := ed_right (x := x - 1) (y := v) (by omega) (by omega) (by omega) (by omega)
    rw [show x - 1 + 1 = x by omega] at r
    refine ⟨r, ?_⟩
    simp only [enum, stepN, mn]
    split <;> split <;> split <;> omega
  · have e : edOf (u, y) (u, y - 1) = ((u, y - 1), (u, y)) := if_pos (by dsimp only; omega)
    rw [e]
    have r := ed_up (x := u) (y := y - 1) (by omega) (by omega) (by omega) (by omega)
    rw [show y - 1 + 1 = y by omega] at r
    refine ⟨r, ?_⟩
    simp only [enum, stepN, mn]
    split <;> split <;> split <;> omega
end Y1
set_option Elab.async false
set_option linter.all false
set_option maxRecDepth 100000
set_option maxHeartbeats 16000000
/-! Walks over edges, each edge once: what is told of them. -/
namespace Y1
open PySem PySem.Spec PyProof.Rows L2 Nv
def pd : PyData → Pt
  | .tuple [.int a, .int b] => (a, b)
  | _ => (0, 0)
/-- the edges of a walk -/
def eds : List PyData → List Eg
  | a :: b :: r => edOf (pd a) (pd b) :: eds (b :: r)
  | _ => []
def wEds : PyData → List Eg
  | .tuple ds => eds ds
  | _ => []
def runE (es : List Eg) : List Eg → List Eg → Option (List Eg)
  | [], u => some u
  | e :: r, u => if e ∈ es ∧ e ∉ u then runE es r (u ++ [e]) else none
def runW (es : List Eg) : List PyData → Nat → List Eg → Nat ⊕ List Eg
  | [], _, u => .inr u
  | w :: r, i, u => match runE es (wEds w) u with
    | none => .inl i
    | some u' => runW es r (i + 1) u'
/-- the rest of a walk, and the walks behind it -/
def goW (es : List Eg) (st : List Eg) (u : List Eg) (i : Nat) (r : List PyData) : Nat ⊕ List Eg := match runE es st u with
  | none => .inl i
  | some u' => runW es r (i + 1) u'
theorem runW_cons {es : List Eg} {w : PyData} {r : List PyData} {i : Nat} {u : List Eg} : runW es (w :: r) i u = goW es (wEds w) u i r := rfl
theorem goW_nil {es u : List Eg} {i : Nat} {r : List PyData} : goW es [] u i r = runW es r (i + 1) u := rfl
theorem goW_yes {es st u : List Eg} {e : Eg} {i : Nat} {r : List PyData} (h : e ∈ es) (k : e ∉ u) : goW es (e :: st) u i r = goW es st (u ++ [e]) i r := by
  unfold goW
  show (match (if e ∈ es ∧ e ∉ u then runE es st (u ++ [e]) else none) with | none => _ | some u' => _) = _
  rw [if_pos ⟨h, k⟩]
theorem goW_no {es st u : List Eg} {e : Eg} {i : Nat} {r : List PyData} (h : ¬ (e ∈ es ∧ e ∉ u)) : goW es (e :: st) u i r = .inl i := by
  unfold goW
  show (match (if e ∈ es ∧ e ∉ u then runE es st (u ++ [e]) else none) with | none => _ | some u' => _) = _
  rw [if_neg h]
/-- what is told: none, or the first walk at fault -/
def faultO (es : List Eg) (ds : List PyData) : Option Nat := match runW es ds 0 [] with
  | .inl i => some i
  | .inr u => if u.length = es.length then none else some ds.length
def optV : Option Nat → V
  | none => .non
  | some n => .int n
def optD : Option Nat → PyData
  | none => .none
  | some n => .int n
theorem dv_opt {H : Hp} (o : Option Nat) : DV H (optV o) (optD o) := by
  cases o with
  | none => exact .non
  | some n => exact .int _
theorem eds_at : ∀ {l : List PyData} {i : Nat} {a b : PyData}, l[i]? = some a → l[i + 1]? = some b → (eds l).drop i = edOf (pd a) (pd b) :: (eds l).drop (i + 1)
  | [], i, a, b, h, _ => by simp at h
  | [x], i, a, b, _, h => by simp at h
  | x :: y :: r, 0, a, b, h1, h2 => by
    simp at h1 h2
    subst h1 h2
    rfl
  | x :: y :: r, i + 1, a, b, h1, h2 => by
    show (eds (y :: r)).drop i = edOf (pd a) (pd b) :: (eds (y :: r)).drop (i + 1)
    exact eds_at (l := y :: r) (by simpa using h1) (by simpa using h2)
theorem eds_len : ∀ l : List PyData, (eds l).length = l.length - 1
  | [] => rfl
  | [_] => rfl
  | a :: b :: r => by
    show (eds (b :: r)).length + 1 = _
    rw [eds_len (b :: r)]
    simp
/-- two neighbours of a walk -/
theorem walk_at {ds : List PyData} (h : walkB (.tuple ds) = true) {i : Nat} {a b : PyData} (ha : ds[i]? = some a) (hb : ds[i + 1]? = some b) :
    ∃ p q : Pt, a = ptP p ∧ b = ptP q ∧ pd a = p ∧ pd b = q ∧ onP p = true ∧ onP q = true ∧ (wayS (q.1 - p.1) (q.2 - p.2)).isSome = true := by
  have h : (decide (2 ≤ ds.length) && (ds.all ptB && (nbs ds).all id)) = true := h
  simp only [Bool.and_eq_true, decide_eq_true_eq] at h
  obtain ⟨h1, h2, h3⟩ := h
  have ap := List.all_eq_true.mp h2
  obtain ⟨i1, j1, rfl, a1, a2, a3, a4⟩ := pt_of (ap a (List.mem_of_getElem? ha))
  obtain ⟨i2, j2, rfl, b1, b2, b3, b4⟩ := pt_of (ap b (List.mem_of_getElem? hb))
  have n := List.all_eq_true.mp h3 _ (List.mem_of_getElem? (nbs_at ha hb))
  refine ⟨(i1, j1), (i2, j2), rfl, rfl, rfl, rfl, ?_, ?_, n⟩
  · simp only [onP, Bool.and_eq_true, decide_eq_true_eq]
    exact ⟨⟨a1, a2⟩, a3, a4⟩
  · simp only [onP, Bool.and_eq_true, decide_eq_true_eq]
    exact ⟨⟨b1, b2⟩, b3, b4⟩
/-- keys that are the numbers of edges -/
abbrev KeyL : List (Key × V) → List Eg → Prop := Paired fun p e => p.1 = Sum.inl (enum e)
theorem EntL.keys {H : Hp} {kb : List (Key × V)} {es : List Eg} (h : EntL H kb es) : KeyL kb es := L2.Paired.mapP h fun p e z => z.1
theorem key_has : ∀ {kb : List (Key × V)} {es : List Eg}, KeyL kb es → (∀ e ∈ es, edB e = true) → ∀ {e : Eg}, edB e = true → (valV kb (Sum.inl (enum e))).isSome = decide (e ∈ es)
  | _, _, .nil, _, e, _ => by simp [valV]
  | _, _, .cons (a := p) (b := x) (l₁ := kb) (l₂ := es) h t, ed, e, he => by
    have ih := key_has t (fun y hy => ed y (List.mem_cons_of_mem _ hy)) he
    by_cases c : enum x = enum e
    · have := enum_inj (ed x List.mem_cons_self) he c
      subst this
      rw [valV_pos h]
      simp
    · rw [valV_neg (fun z => c (Sum.inl.inj (h.symm.trans z))), ih]
      have ne : e ≠ x := fun z => c (by rw [z])
      simp [ne]
theorem key_snoc : ∀ {ka : List (Key × V)} {es : List Eg}, KeyL ka es → ∀ {e : Eg} {v : V}, KeyL (ka ++ [(Sum.inl (enum e), v)]) (es ++ [e])
  | _, _, .nil, _, _ => .cons rfl .nil
  | _, _, .cons h t, _, _ => .cons h (key_snoc t)
theorem key_len {ka : List (Key × V)} {es : List Eg} (h : KeyL ka es) : ka.length = es.length := Paired.length h
theorem sub_len : ∀ {u es : List Eg}, u.Nodup → (∀ e ∈ u, e ∈ es) → u.length ≤ es.length
  | [], _, _, _ => Nat.zero_le _
  | e :: u, es, nd, h => by
    have nd2 := List.nodup_cons.mp nd
    have m := h e List.mem_cons_self
    have ih := sub_len (es := es.erase e) nd2.2 fun x hx => (List.mem_erase_of_ne fun z => nd2.1 (by rw [← z]; exact hx)).mpr (h x (List.mem_cons_of_mem _ hx))
    rw [List.length_erase_of_mem m] at ih
    have := List.length_pos_of_mem m
    rw [List.length_cons]
    omega
end Y1
set_option Elab.async false
set_option linter.all false
set_option maxRecDepth 100000
set_option maxHeartbeats 4000000
/-! enumerate(xs), for x in xs: xs a list or a tuple. -/
namespace Nv
open PySem PySem.Spec PyProof.Rows L2
section
variable {prog : Program} {w : World} {A : Around} {E : Value → Shared → Prop} {s : Shared}
theorem enumT_item {e it l : Addr} {i : Nat} {items : Array Value} {x old : Value} {Q : Option Value → Shared → Prop} (hh : A.handled = none)
    (he : IsEnum s.heap e it i old) (hit : s.heap.IsTupleIter it l i) (hl : s.heap.IsTuple l items) (hx : items[i]? = some x) (hne : e ≠ it) (hnl : e ≠ l) (hil : l ≠ it)
    (hQ : ∀ h' tk, IsEnumOut h' e it ((i : Int) + 1) x s.heap.objs.size → h'.IsTupleIter it l (i + 1) →
      h'.get? s.heap.objs.size = some { cls := .type "tuple", data := .seq #[.int i tk, x] } → h'.objs.size = s.heap.objs.size + 1 →
      (∀ b o, b ≠ e → b ≠ it → s.heap.get? b = some o → h'.get? b = some o) → Q (some (.ref s.heap.objs.size)) { s with heap := h', toks := tk + 1 }) :
    wpAny (model prog w) A (pyNext (.ref e)) Q E s := by
  have hi : i < items.size := (Array.getElem?_eq_some_iff.mp hx).1
  refine wpAny_pyNext_enum_itemD (fp := [it, l]) (n := items.size) (Draws.tuple (A := A.in1) hh it l hil items) he ⟨hit, hl⟩ hi hne (by simp [hne, hnl]) fun y h' tk hP ho st hT hsz hk => ?_
  rw [hx] at hP
  cases hP
  exact hQ h' tk ho st.1 hT hsz hk
theorem enumT_end {e it l : Addr} {i : Nat} {items : Array Value} {old : Value} {Q : Option Value → Shared → Prop} (hh : A.handled = none)
    (he : IsEnum s.heap e it i old) (hit : s.heap.IsTupleIter it l i) (hl : s.heap.IsTuple l items) (hx : items[i]? = none)
    (hQ : ∀ h', Heap.ExtBut it s.heap h' → Q none { s with heap := h' }) : wpAny (model prog w) A (pyNext (.ref e)) Q E s := by
  have hT : s.TypeIs (.ref e) "enumerate" := ⟨_, he, rfl⟩
  unfold pyNext
  refine wpAny_bind (wpAny_attempt (wpAny_callSpecial?_slot (name := Str.ofString "__next__") hT F.slot_enumerate_next
    (wpAny_call_entry F.slot_enumerate_next hT F.entry_enumerate_next ?_ (F.args_enumerate_next_1 _))))
  show wpAny _ _ (field (.ref e) 2 >>= _) _ _ _
  refine wpAny_bind (wpAny_field he rfl (x := .ref it) rfl ?_)
  refine wpAny_bind (wpAny_nextOf_tuple_end hh hit hl hx fun h' x he' hx' => ?_)
  obtain ⟨o, ho, hc⟩ := hx'
  refine wpAny_bind (wpAny_isInstance (T := "StopIteration") (b := true) ⟨o, ho, hc⟩ isSubtype_stop ?_)
  exact wpAny_pure (hQ _ he')
theorem meets_enumT (l : Addr) (items : Array Value) :
    Meets (Builtin.«enumerate.__new__» ⟨[.type "enumerate", .ref l], []⟩) (fun _ R s => s.heap.IsTuple l items ∧
      R (.ok (.ret (.ref (s.heap.push { cls := .type "tuple_iterator", data := .fields #[.ref l, .int 0 0] }).objs.size)))
        { s with heap := (s.heap.push { cls := .type "tuple_iterator", data := .fields #[.ref l, .int 0 0] }).push { cls := .type "enumerate", data := .fields #[.none, .bool false, .ref s.heap.objs.size, rawInt 0, .none, .none] } }) :=
  .of_wp fun prog w A R s h => by
    obtain ⟨hp, g, d, tk, os⟩ := s; obtain ⟨hl, h⟩ := h
    have hsub := sub_enumerate
    have hL : Heap.IsTuple (Shared.heap ⟨hp, g, d, tk, os⟩) l items := hl
    wp_walk using wpAny_pyIter_tuple hL
    refine wpAny_stack_any fun st => wpAny_pure ?_
    split
    · rename_i c _ _ _ _ _
      cases (c == Value.type "enumerate")
      · wp_walk using wpAny_pyIter_tuple hL
        exact ⟨_, rfl, h⟩
      · wp_walk using wpAny_pyIter_tuple hL
        exact ⟨_, rfl, h⟩
    · wp_walk using wpAny_pyIter_tuple hL
      exact ⟨_, rfl, h⟩
theorem call_enumT {l : Addr} {items : Array Value} {Q : Value → Shared → Prop} (hL : s.heap.IsTuple l items)
    (h : ∀ h', IsEnum h' (s.heap.objs.size + 1) s.heap.objs.size 0 .none → h'.IsTupleIter s.heap.objs.size l 0 → h'.objs.size = s.heap.objs.size + 2 →
      (∀ b o, s.heap.get? b = some o → h'.get? b = some o) → Q (.ref (s.heap.objs.size + 1)) { s with heap := h' }) :
    wpAny (model prog w) A (call (.type "enumerate") [.ref l]) Q E s := by
  refine callType_new F.called_enumerate (by decide) (F.typeCall_enumerate_1 _) (F.newCall_enumerate_1 _) (fun obj => F.args_object_init_2 obj _) F.entry_enumerate_new
    (meets_enumT l items) ⟨hL, ?_⟩
  have hz : (s.heap.push { cls := .type "tuple_iterator", data := .fields #[.ref l, .int 0 0] }).objs.size = s.heap.objs.size + 1 := Heap.size_push ..
  show _ ∧ _
  rw [hz]
  have he : IsEnum ((s.heap.push { cls := .type "tuple_iterator", data := .fields #[.ref l, .int 0 0] }).push
      { cls := .type "enumerate", data := .fields #[.none, .bool false, .ref s.heap.objs.size, rawInt 0, .none, .none] }) (s.heap.objs.size + 1) s.heap.objs.size 0 .none := by
    have := Heap.get?_push_size (s.heap.push { cls := .type "tuple_iterator", data := .fields #[.ref l, .int 0 0] })
      (o := { cls := .type "enumerate", data := .fields #[.none, .bool false, .ref s.heap.objs.size, rawInt 0, .none, .none] }) rfl
    rw [hz] at this; exact this
  refine ⟨⟨_, he, rfl⟩, h _ he ⟨_, Heap.get?_push_of_some _ (Heap.get?_push_size _ rfl), rfl, rfl⟩ (by rw [Heap.size_push, hz]) fun b o x => Heap.get?_push_of_some _ (Heap.get?_push_of_some _ x)⟩
end
/-- the tuple at a, each item in a new pair -/
def IteT (K : PySem.W.Frag) (a : Addr) : It :=
  ⟨fun i H => ∃ (xs : List V) (x : V), SqT K H a xs ∧ xs[i]? = some x, fun i H v H' => ∃ T x, v = .ref T ∧ H T = none ∧ H' = upd H T (.tup [.int (i : Nat), x]) ∧ ∀ xs, SqT K H a xs → xs[i]? = some x, fun i H => ∃ xs : List V, SqT K H a xs ∧ xs.length ≤ i⟩
theorem turn_enumT {P : Program} {w : World} {K : PySem.W.Frag} {elts : List Expr} {kk : Nat} {tpos : Pos} (a e it : Addr) (hnl : e ≠ a) (hil : a ≠ it) :
    Turn P w K (.Tuple elts kk tpos) (IteT K a) [e, it] e (fun i h => (∃ old, IsEnum h e it ((i : Nat) : Int) old) ∧ h.IsTupleIter it a i ∧ e ≠ it) where
  mem := by simp
  obj := fun i h st b hb => by
    obtain ⟨⟨old, he⟩, ⟨o, ho, hc, hd⟩, _⟩ := st
    have e' : b = e ∨ b = it := by simpa using hb
    rcases e' with z | z
    · rw [z]; exact ⟨_, he, fun v q => nomatch q⟩
    · rw [z]; exact ⟨o, ho, fun v q => by rw [hd] at q; cases q⟩
  keep := fun i h h' st k => let ⟨⟨old, he⟩, hi, hne⟩ := st; ⟨⟨old, k e (by simp) _ he⟩, hi.at fun o q => k it (by simp) o q, hne⟩
  item := by
    intro X hP hw hK hc i pins s σ H E I hf st hg
    subst hP hw hK
    obtain ⟨⟨old, he⟩, hit, hne⟩ := st
    obtain ⟨xs, x, hq, hx⟩ := hg
    obtain ⟨its, rv, p, hz⟩ := I.tuple hq
    obtain ⟨u, hu, ru⟩ := rv.get hx
    have hel : e < s.heap.objs.size := Heap.lt_size he
    have hil2 : it < s.heap.objs.size := by obtain ⟨_, q, _⟩ := hit; exact Heap.lt_size q
    refine enumT_item (I.ok.hd hc) he hit (show s.heap.IsTuple a its.toArray from p) (x := u) (by simpa using hu) hne hnl hil fun h' tk ho hit' hT hsz hk => ?_
    refine ⟨_, rfl, wpAny_letOwnedTupleGo_enum (s := { s with heap := h', toks := tk + 1 }) ho fun h'' he' sb => ?_⟩
    have hT2 : h''.get? s.heap.objs.size = some { cls := .type "tuple", data := .seq #[.int i tk, u] } := (sb.2 _ (Nat.ne_of_gt hel)).trans hT
    have new : ObjOk X.prog X.w (upd H s.heap.objs.size (.tup [.int (i : Nat), x])) h'' s.heap.objs.size (.tup [.int (i : Nat), x]) :=
      ⟨by show 2 ≤ sizeLine; decide, [.int i tk, u], .cons ⟨_, rfl⟩ (.cons ru .nil), ⟨_, hT2, rfl, _, rfl⟩⟩
    have I1 : Inv X pins σ (upd H s.heap.objs.size (.tup [.int (i : Nat), x])) { s with heap := h'', toks := tk + 1 } :=
      I.turnedNew (ch := [e, it]) (fun b ob hb q => (sb.2 b (fun z => hb (by simp [z]))).trans (hk b ob (fun z => hb (by simp [z])) (fun z => hb (by simp [z])) q)) hf (Nat.le_refl _) new
    refine ⟨.ref s.heap.objs.size, _, I1, rfl, ⟨_, x, rfl, I.hok.fresh (Nat.le_refl _), rfl, fun ys hy => by rw [I.tuple_inj hy hq]; exact hx⟩, ⟨⟨u, ?_⟩, hit'.at fun o q => (sb.2 it (Ne.symm hne)).trans q, hne⟩, fun b hb => ?_⟩
    · have e1 : ((i + 1 : Nat) : Int) = (i : Int) + 1 := by omega
      rw [e1]; exact he'
    · have hb' : b < s.heap.objs.size := by
        have e' : b = e ∨ b = it := by simpa using hb
        rcases e' with z | z
        · rw [z]; exact hel
        · rw [z]; exact hil2
      rw [upd_ne (Nat.ne_of_lt hb')]
      exact (hf b hb).1
  done := by
    intro X hP hw hK hc i pins s σ H E I hf st hg
    subst hP hw hK
    obtain ⟨⟨old, he⟩, hit, hne⟩ := st
    obtain ⟨xs, hq, hx⟩ := hg
    obtain ⟨its, rv, p, hz⟩ := I.tuple hq
    obtain ⟨f0, f1, f2, f3, f4, f5⟩ := hf it (by simp)
    have hl := rv.length
    exact enumT_end (I.ok.hd hc) he hit (show s.heap.IsTuple a its.toArray from p) (by simp; omega) fun h' eb => ⟨rfl, I.turned (t' := s.toks) (fun b o hb q => eb b o hb q) f0 f1 f3 f4 f5⟩
  self := fun A i s Q E st h => let ⟨⟨_, he⟩, _⟩ := st; wpAny_pyIter_enum he h
/-- what walks the object o at a, its items xs, each in a new pair -/
structure EnumOf (a : Addr) (o : HO) (xs : List V) (J : It) : Prop where
  go : ∀ i H x, H a = some o → xs[i]? = some x → J.go i H
  yl : ∀ i H v H', H a = some o → J.yld i H v H' → ∃ T x, xs[i]? = some x ∧ v = .ref T ∧ H T = none ∧ H' = upd H T (.tup [.int (i : Nat), x])
  st : ∀ i H, H a = some o → xs.length ≤ i → J.stop i H
/-- what walks the object o at a, its items xs -/
structure SeqOf (a : Addr) (o : HO) (xs : List V) (J : It) : Prop where
  go : ∀ i H x, H a = some o → xs[i]? = some x → J.go i H
  yl : ∀ i H v H', H a = some o → J.yld i H v H' → xs[i]? = some v ∧ H' = H
  st : ∀ i H, H a = some o → xs.length ≤ i → J.stop i H
def iEnumS (ta : TA) : TI := fun σ H R => ta σ H fun vs H1 => ∃ a o xs, vs = [.ref a] ∧ H1 a = some o ∧ (o = .lst xs ∨ o = .tup xs) ∧ ∀ J, EnumOf a o xs J → R J H1
def iSeqS (te : TE) : TI := fun σ H R => te σ H fun v H1 => ∃ a o xs, v = .ref a ∧ H1 a = some o ∧ (o = .lst xs ∨ o = .tup xs) ∧ ∀ J, SeqOf a o xs J → R J H1
theorem enumOf_lst {K : PySem.W.Frag} {a : Addr} {xs : List V} : EnumOf a (.lst xs) xs (Ite K a) :=
  ⟨fun i H x h hx => ⟨xs, x, SqL.of h, hx⟩, fun i H v H' h y => by obtain ⟨T, x, e1, e2, e3, q⟩ := y; exact ⟨T, x, q xs (SqL.of h), e1, e2, e3⟩, fun i H h l => ⟨xs, SqL.of h, l⟩⟩
theorem enumOf_tup {K : PySem.W.Frag} {a : Addr} {xs : List V} : EnumOf a (.tup xs) xs (IteT K a) :=
  ⟨fun i H x h hx => ⟨xs, x, SqT.of h, hx⟩, fun i H v H' h y => by obtain ⟨T, x, e1, e2, e3, q⟩ := y; exact ⟨T, x, q xs (SqT.of h), e1, e2, e3⟩, fun i H h l => ⟨xs, SqT.of h, l⟩⟩
theorem pi_enumS {X : Cx} {e : Expr} {ta : TA} {p pos tpos : Pos} {elts : List Expr} {kk : Nat} (hg : Gl X "enumerate") (hm : X.mg "enumerate" = none) (ha : PA X [e] ta) (hs : starEach [e] X.env = [(false, eval e X.env)] := by rfl) :
    PI X (.Tuple elts kk tpos) (.Call (.Name "enumerate" p) [e] [] pos) (iEnumS ta) := by
  refine ⟨fun pins s σ H R I h => ?_⟩
  refine Call_ (ld_blt I hg hm boot_enumerate (PyProof.Rows.callWith_type1 (thn (ha.run pos pins s σ H _ I h) fun us s1 ⟨vs, H1, I1, r1, q1⟩ => ?_) hs rfl))
  obtain ⟨a, o, xs, ex, hq, ho, q⟩ := q1
  subst ex
  cases r1 with
  | cons r rr =>
    cases rr
    cases r
    rcases ho with rfl | rfl
    · obtain ⟨its, rv, p', hz⟩ := I1.list (SqL.of hq)
      refine call_enumerate_list p'.isList fun h' he hit hsz hk => wpAny_pyIter_enum he ?_
      have I2 : Inv X pins σ H1 { s1 with heap := h' } := I1.kept (t' := s1.toks) hk
      refine ⟨s1.heap.objs.size + 1, [s1.heap.objs.size + 1, s1.heap.objs.size], _, _, H1, rfl, I2, turn_enum a (s1.heap.objs.size + 1) s1.heap.objs.size, ⟨⟨.none, he⟩, hit, Nat.succ_ne_self _⟩, fun b hb => ?_, q _ enumOf_lst⟩
      have e' : b = s1.heap.objs.size + 1 ∨ b = s1.heap.objs.size := by simpa using hb
      have hle : s1.heap.objs.size ≤ b := by
        rcases e' with z | z
        · rw [z]; exact Nat.le_add_right _ _
        · rw [z]; exact Nat.le_refl _
      exact I1.fpOk hle (I1.hok.fresh hle)
    · obtain ⟨its, rv, p', hz⟩ := I1.tuple (SqT.of hq)
      have al : a < s1.heap.objs.size := by
        obtain ⟨ob, h1, _⟩ := p'
        exact Heap.lt_size h1
      refine call_enumT (show s1.heap.IsTuple a its.toArray from p') fun h' he hit hsz hk => wpAny_pyIter_enum he ?_
      have I2 : Inv X pins σ H1 { s1 with heap := h' } := I1.kept (t' := s1.toks) hk
      refine ⟨s1.heap.objs.size + 1, [s1.heap.objs.size + 1, s1.heap.objs.size], _, _, H1, rfl, I2, turn_enumT a (s1.heap.objs.size + 1) s1.heap.objs.size (Nat.ne_of_gt (Nat.lt_succ_of_lt al)) (Nat.ne_of_lt al), ⟨⟨.none, he⟩, hit, Nat.succ_ne_self _⟩, fun b hb => ?_, q _ enumOf_tup⟩
      have e' : b = s1.heap.objs.size + 1 ∨ b = s1.heap.objs.size := by simpa using hb
      have hle : s1.heap.objs.size ≤ b := by
        rcases e' with z | z
        · rw [z]; exact Nat.le_add_right _ _
        · rw [z]; exact Nat.le_refl _
      exact I1.fpOk hle (I1.hok.fresh hle)
theorem pi_seqS {X : Cx} {tg l : Expr} {tl : TE} (hl : PE X l tl) : PI X tg l (iSeqS tl) := by
  have p := pi_or (pi_list (tg := tg) hl) (pi_tup (tg := tg) hl)
  refine ⟨fun pins s σ H R I h => ?_⟩
  refine thn (hl.run pins s σ H _ I h) fun v s1 ⟨x, H1, I1, r1, q1⟩ => ?_
  obtain ⟨a, o, xs, e, hq, ho, q⟩ := q1
  subst e
  cases r1
  rcases ho with rfl | rfl
  · obtain ⟨its, rv, p, hz⟩ := I1.list (SqL.of hq)
    refine wpAny_pyIter_list p.isList ?_
    refine ⟨s1.heap.objs.size, [s1.heap.objs.size], _, _, H1, rfl, I1.kept (t' := s1.toks) fun b o e => Heap.get?_push_of_some _ e, turn_list a _, ⟨_, Heap.get?_push_size _ rfl, rfl, rfl⟩, fun b hb => ?_, q _ ?_⟩
    · have e : b = s1.heap.objs.size := by simpa using hb
      subst e
      exact I1.fpOk (Nat.le_refl _) (I1.hok.fresh (Nat.le_refl _))
    · exact ⟨fun i H x h hx => ⟨xs, x, SqL.of h, hx⟩, fun i H v H' h y => ⟨y.2 xs (SqL.of h), y.1⟩, fun i H h l => ⟨xs, SqL.of h, l⟩⟩
  · obtain ⟨its, rv, p, hz⟩ := I1.tuple (SqT.of hq)
    refine wpAny_pyIter_tuple (show s1.heap.IsTuple a its.toArray from p) ?_
    refine ⟨s1.heap.objs.size, [s1.heap.objs.size], _, _, H1, rfl, I1.kept (t' := s1.toks) fun b o e => Heap.get?_push_of_some _ e, turn_tuple a _, ⟨_, Heap.get?_push_size _ rfl, rfl, rfl⟩, fun b hb => ?_, q _ ?_⟩
    · have e : b = s1.heap.objs.size := by simpa using hb
      subst e
      exact I1.fpOk (Nat.le_refl _) (I1.hok.fresh (Nat.le_refl _))
    · exact ⟨fun i H x h hx => ⟨xs, x, SqT.of h, hx⟩, fun i H v H' h y => ⟨y.2 xs (SqT.of h), y.1⟩, fun i H h l => ⟨xs, SqT.of h, l⟩⟩
/-- a loop of n turns over what walks J -/
theorem for_at {J : It} {n : Nat} {g : TG} {tb : TS} {D : Ends} {σ : L2.St} {H : Hp} (Pv : Nat → L2.St → Hp → Prop) (h0 : Pv 0 σ H) (hg : ∀ i σ H, i < n → Pv i σ H → J.go i H) (hp : ∀ σ H, Pv n σ H → J.stop n H)
    (hs : ∀ i x σ H H', i < n → Pv i σ H → J.yld i H x H' → g x σ H' fun σ2 H2 => tb { D with nx := Pv (i + 1), ct := Pv (i + 1), bk := D.nx } σ2 H2) (hd : ∀ σ H, Pv n σ H → D.nx σ H) :
    ∃ W : Nat → Nat → L2.St → Hp → Prop, (∃ m, W 0 m σ H) ∧ ∀ i m σ H, W i m σ H →
      (J.stop i H ∧ D.nx σ H) ∨ (J.go i H ∧ ∃ N : L2.St → Hp → Prop, (∀ σ' H', N σ' H' → ∃ m', m' < m ∧ W (i + 1) m' σ' H') ∧ ∀ x H', J.yld i H x H' → g x σ H' fun σ2 H2 => tb { D with nx := N, ct := N, bk := D.nx } σ2 H2) := by
  refine ⟨fun i m σ H => m = n - i ∧ i ≤ n ∧ Pv i σ H, ⟨n, by simp, Nat.zero_le _, h0⟩, ?_⟩
  rintro i m σ H ⟨rfl, hi, p⟩
  by_cases hlt : i < n
  · exact .inr ⟨hg i σ H hlt p, Pv (i + 1), fun σ' H' p' => ⟨n - (i + 1), by omega, rfl, hlt, p'⟩, fun x H' y => hs i x σ H H' hlt p y⟩
  · have e : i = n := by omega
    subst e
    exact .inl ⟨hp σ H p, hd σ H p⟩
end Nv
set_option Elab.async false
set_option linter.all false
set_option maxRecDepth 100000
set_option maxHeartbeats 16000000
/-! division_fault. -/
namespace Y1
open PySem PySem.Spec PyProof.Rows L2 Nv
structure TieN (K : PySem.W.Frag) (mg : Str → Option Value) (n : Str) (C fI : Addr) : Prop where
  xc : Xc K C fI
  gl : mg n = some (.ref C)
def shortD (d : PyData) : Prop := ∀ ds, d = .tuple ds → ds.length ≤ 1000
def spDf (K : PySem.W.Frag) (CF CL CW : Addr) : Sp := fun vs H Q E => ∃ x es wv t b, vs = [.ref x, wv] ∧ FigE CF H x es ∧ es.length ≤ 400 ∧ TyX K H wv t ∧ PySem.W.kitAny K t seqs = some b ∧
  (b = false → ∀ dx H', Same H H' → XD H' dx wv → E (.ref CL) (some dx) H') ∧
  (b = true → ∃ a o xs ds, wv = .ref a ∧ H a = some o ∧ (o = .lst xs ∨ o = .tup xs) ∧ DVs H xs ds ∧ (∀ d ∈ ds, shortD d) ∧ ds.length ≤ 1000 ∧
    (∀ (k : Nat) (v : V) (d : PyData), xs[k]? = some v → ds[k]? = some d → walkB d = false → (∀ (j : Nat) (z : PyData), j < k → ds[j]? = some z → walkB z = true) → ∀ dx H', Same H H' → XD H' dx v → E (.ref CW) (some dx) H') ∧
    ((∀ d ∈ ds, walkB d = true) → ∀ H', Same H H' → Q (optV (faultO es ds)) H'))
abbrev dfN : List Str := ["figure", "walks", "walk", "held", "passed", "index", "point", "other", "number"]
structure Ten (mg : Str → Option Value) : Prop where
  en : mg "enumerate" = none
section
variable {P : Program} {w : World} {K : PySem.W.Frag} {mg : Str → Option Value} {base : Heap} {CF CH CL CW fI : Addr} {fdI : FuncData}
theorem scDf : FnScope dfN ["figure", "walks"] (defScope (top 33)) := ⟨rfl, rfl, rfl, by decide +kernel, rfl, by decide +kernel, by decide +kernel⟩
theorem ok_df {f fW fH fS : Addr} {fd fdW fdH fdS : FuncData} (F : Fun K "division_fault" "division_fault" (top 33) f fd) (T : Ta mg) (TL : mg "list" = none) (Tn : Ten mg) (Z : Tz mg) (XL : TieN K mg "InvalidWalks" CL fI) (XW : TieN K mg "InvalidWalk" CW fI)
    (GI : FnOk P w K mg base CX0 1 fI fdI ["self", "value"] (spIni K)) (bI : Binds K fdI ["self", "value"] [])
    (GW : FnOk P w K mg base CX0 4 fW fdW ["value"] (spIW K)) (AW : At K mg "is_walk" fW fdW ["value"]) (GH : FnOk P w K mg base CX0 1 fH fdH ["figure"] (spHb CF)) (AH : At K mg "held_by" fH fdH ["figure"])
    (GS : FnOk P w K mg base CX0 1 fS fdS ["point", "other"] spSn) (AS : At K mg "step_number" fS fdS ["point", "other"]) :
    FnOk P w K mg base (L2N.CX P w) 6 f fd ["figure", "walks"] (spDf K CF CL CW) := by
  refine okN F scDf (fun vs H Q E h => by obtain ⟨x, es, wv, t, b, rfl, _⟩ := h; rfl) (fun cdv A outer s H vs Q E hr h tk => ?_)
  obtain ⟨x, es, wv, t, b, rfl, fg, l400, ty, kt, qf, qt⟩ := h
  have hu1 : (A.deeper (envOfC "division_fault" (defScope (top 33)) s.heap.objs.size f cdv)).units + 1 < cLine := by
    have := hr.un
    omega
  refine ⟨_, (pss_cons (ps_if (pt_not (pt_val (pe_callB call_isiT (by rfl) T.isi (by decide +kernel) (pa_cons (pv 1) (pa_cons (pe_tup (pa_cons (pe_bltn (v := .ty "list") (u := .type "list") (by rfl) TL (by decide +kernel) rfl) (pa_cons (pe_bltn (v := .ty "tuple") (u := .type "tuple") (by rfl) T.tup (by decide +kernel) rfl) pa_nil))) pa_nil))))) (pss_one (L2N.ps_raise rfl tk (pmk_mkx XL.xc.mx GI (hr.mono (by decide)) bI rfl XL.gl (pv 1)))) pss_nil)
    (pss_cons (ps_for (passes_of rfl) rfl (pi_seqS (pv 1)) (pg_name (i := 2) scDf.nd rfl (Or.inl rfl))
      (pss_one (ps_if (pt_not (pt_val (pe_call GW (hr.mono (by decide)) rfl AW.g AW.k AW.b .nil pass0 (pa_cons (pv 2) pa_nil)))) (pss_one (L2N.ps_raise rfl tk (pmk_mkx XW.xc.mx GI (hr.mono (by decide)) bI rfl XW.gl (pv 2)))) pss_nil)))
    (pss_cons (ps_set (i := 3) scDf.nd rfl (Or.inl rfl) (pe_call GH (hr.mono (by decide)) rfl AH.g AH.k AH.b .nil pass0 (pa_cons (pv 0) pa_nil)))
    (pss_cons (ps_set (i := 4) scDf.nd rfl (Or.inl rfl) pe_dnewK)
    (pss_cons (ps_for (passes_of rfl) rfl (pi_enumS (by rfl) Tn.en (pa_cons (pv 1) pa_nil)) (pg_tup rfl (pgs_cons (pg_name (i := 5) scDf.nd rfl (Or.inl rfl)) (pgs_cons (pg_name (i := 2) scDf.nd rfl (Or.inl rfl)) pgs_nil)))
      (pss_one (ps_for (passes_of rfl) rfl (RZ.pi_zipA (by rfl) Z.zip (pa_cons (pe_slice sl_tup (pv 2) po_none (po_some (pe_un un_neg pe_int))) (pa_cons (pe_slice sl_tup (pv 2) (po_some pe_int) po_none) pa_nil))) (pg_tup rfl (pgs_cons (pg_name (i := 6) scDf.nd rfl (Or.inl rfl)) (pgs_cons (pg_name (i := 7) scDf.nd rfl (Or.inl rfl)) pgs_nil)))
        (pss_cons (ps_set (i := 8) scDf.nd rfl (Or.inl rfl) (pe_call GS (hr.mono (by decide)) rfl AS.g AS.k AS.b .nil pass0 (pa_cons (pv 6) (pa_cons (pv 7) pa_nil))))
        (pss_cons (ps_if (PW.pt (pw_or (pt_cmp (pc_dnotin hu1 (pv 8) (pv 3))) (pw_or1 (pt_cmp (pc_din hu1 (pv 8) (pv 4)))))) (pss_one (ps_ret (pv 5))) pss_nil)
        (pss_one (ps_dput hu1 (pv 4) (pv 8) pe_bl (by rfl))))))))
    (pss_one (ps_ret (pe_ifExp (pt_cmpR op_eq (pe_callB call_lenD (by rfl) T.len PySem.boot_len (pa_cons (pv 4) pa_nil)) (pe_callB call_lenD (by rfl) T.len PySem.boot_len (pa_cons (pv 3) pa_nil)) (nomark _)) pe_non (pe_callB call_len_seq (by rfl) T.len PySem.boot_len (pa_cons (pv 1) pa_nil)))))))))), ?_⟩
  have bad : ∀ {C : Addr} {v : V} {H1 : Hp}, Same H H1 → (∀ dx H', Same H H' → XD H' dx v → E (.ref C) (some dx) H') → ∀ dx n, H1 dx = none → E (.ref C) (some dx) (upd H1 dx (.xd (xf n v))) := fun s1 q dx n nd => q dx _ (fun b o e => stay (s1 b o e) nd) XD.of
  refine ⟨_, rfl, (by show 2 ≤ sizeLine; decide), fun tp ntp => ⟨wv, tp, _, t, seqs, b, rfl, upd_same, .cons (.ty _) (.cons (.ty _) .nil), TyX.more ty fun b o e => stay e ntp, kt, _, rfl, ?_⟩⟩
  have s1 : Same H (upd H tp (.tup [.ty "list", .ty "tuple"])) := fun b o e => stay e ntp
  generalize upd H tp (.tup [.ty "list", .ty "tuple"]) = H1 at s1
  cases b with
  | false => exact ⟨_, rfl, bad s1 (qf rfl)⟩
  | true =>
    obtain ⟨a, o, xs, ds, rfl, ha, ho, dv, sh, l1000, qb, qg⟩ := qt rfl
    have ln := dv.length
    -- every one a walk?
    refine ⟨_, rfl, a, o, xs, rfl, s1 _ _ ha, ho, fun J EJ => for_at (n := xs.length) (fun i σ H' => ∃ o2, σ = [some (.ref x), some (.ref a), o2, none, none, none, none, none, none] ∧ Same H H' ∧ ∀ j z, j < i → ds[j]? = some z → walkB z = true) ⟨none, rfl, s1, fun j z hj => absurd hj (Nat.not_lt_zero _)⟩ ?_ ?_ ?_ ?_⟩
    · rintro i σ H' hi ⟨o2, rfl, s2, _⟩
      exact EJ.go i H' xs[i] (s2 _ _ ha) (List.getElem?_eq_getElem hi)
    · rintro σ H' ⟨o2, rfl, s2, _⟩
      exact EJ.st _ H' (s2 _ _ ha) (Nat.le_refl _)
    · rintro i v σ H' H'' hi ⟨o2, rfl, s2, al⟩ y
      obtain ⟨hv, rfl⟩ := EJ.yl i H' v H'' (s2 _ _ ha) y
      obtain ⟨d, hd, dvx⟩ := dv.at i v hv
      refine ⟨_, rfl, v, some d, rfl, .dat (dvx.more s2), fun d' e ds' e2 => ?_, fun H3 s3 => ⟨_, rfl, ?_⟩⟩
      · cases e
        exact sh d (List.mem_of_getElem? hd) ds' e2
      · cases e : walkB d with
        | false => exact ifT (by show (!okW (some d)) = true; rw [show okW (some d) = walkB d from rfl, e]; rfl) ⟨_, rfl, bad (fun b o e => s3 b o (s2 b o e)) (qb i v d hv hd e al)⟩
        | true =>
          refine ifF (by show (!okW (some d)) = false; rw [show okW (some d) = walkB d from rfl, e]; rfl) ⟨some v, rfl, fun b o e => s3 b o (s2 b o e), fun j z hj hz => ?_⟩
          by_cases ej : j = i
          · subst ej
            rw [hd] at hz
            cases hz
            exact e
          · exact al j z (by omega) hz
    -- yes
    rintro σ H2 ⟨o2, rfl, s2, al⟩
    have alw : ∀ d ∈ ds, walkB d = true := fun d hd => by
      obtain ⟨j, hj⟩ := List.getElem?_of_mem hd
      exact al j d (by rw [ln]; exact (List.getElem?_eq_some_iff.mp hj).1) hj
    clear qb qf al
    refine ⟨_, rfl, x, es, rfl, fg.more s2, fun hh kvs hk en => ?_⟩
    have edE : ∀ e ∈ es, edB e = true := by
      obtain ⟨_, _, _, _, h⟩ := id fg
      exact h
    dsimp only
    refine fun D nD => ?_
    have hk0 : ∀ {H' : Hp}, Same H2 H' → H' hh = some (.dK kvs) := fun s => s _ _ hk
    refine ⟨_, rfl, a, o, xs, rfl, stay (s2 _ _ ha) nD, ho, fun J EJ => for_at (n := xs.length) (fun i σ H' => ∃ (o2 o5 o6 o7 o8 : Option V) (u : List Eg) (kp : List (Key × V)), σ = [some (.ref x), some (.ref a), o2, some (.ref hh), some (.ref D), o5, o6, o7, o8] ∧ Same H2 H' ∧ H' D = some (.dK kp) ∧ KeyL kp u ∧ (∀ e ∈ u, e ∈ es) ∧ u.Nodup ∧ runW es (ds.drop i) i u = runW es ds 0 [])
      ⟨o2, none, none, none, none, [], [], rfl, fun b o e => stay e nD, upd_same, .nil, (fun e (h : e ∈ ([] : List Eg)) => by cases h), List.nodup_nil, rfl⟩ ?_ ?_ ?_ ?_⟩
    · rintro i σ H' hi ⟨o2, o5, o6, o7, o8, u, kp, rfl, s3, _⟩
      exact EJ.go i H' xs[i] (s3 _ _ (s2 _ _ ha)) (List.getElem?_eq_getElem hi)
    · rintro σ H' ⟨o2, o5, o6, o7, o8, u, kp, rfl, s3, _⟩
      exact EJ.st _ H' (s3 _ _ (s2 _ _ ha)) (Nat.le_refl _)
    · rintro i v σ H' H'' hi ⟨o2, o5, o6, o7, o8, u, kp, rfl, s3, hD, kl, su, nu, run⟩ y
      obtain ⟨T, wv, hw, rfl, nT, rfl⟩ := EJ.yl i H' v H'' (s3 _ _ (s2 _ _ ha)) y
      obtain ⟨d, hd, dw⟩ := dv.at i wv hw
      have wk := alw d (List.mem_of_getElem? hd)
      obtain ⟨dw', rfl⟩ : ∃ dw', d = .tuple dw' := by
        cases d with
        | tuple dw' => exact ⟨dw', rfl⟩
        | _ => cases wk
      obtain ⟨aw, zs, rfl, haw, dz⟩ := dv_tup dw
      have lz := dz.length
      have two : 2 ≤ zs.length := by
        have h : (decide (2 ≤ dw'.length) && (dw'.all ptB && (nbs dw').all id)) = true := wk
        rw [Bool.and_eq_true] at h
        have := of_decide_eq_true h.1
        omega
      have dsd : ds.drop i = .tuple dw' :: ds.drop (i + 1) := by
        rw [List.drop_eq_getElem_cons (show i < ds.length by omega)]
        congr 1
        exact (List.getElem?_eq_some_iff.mp hd).2
      rw [dsd, runW_cons] at run
      refine ⟨T, _, rfl, sqt upd_same, rfl, _, _, rfl, _, _, rfl, rfl, ?_⟩
      have s4 : Same H2 (upd H' T (.tup [.int (i : Nat), .ref aw])) := fun b o e => stay (s3 b o e) nT
      have hD4 : upd H' T (.tup [.int (i : Nat), .ref aw]) D = some (.dK kp) := stay hD nT
      generalize upd H' T (.tup [.int (i : Nat), .ref aw]) = H4 at s4 hD4
      obtain ⟨ec1, en1⟩ := cut_init zs two
      obtain ⟨ec2, en2⟩ := cut_tail zs two
      have s04 : Same H H4 := fun b o e => s4 b o (s2 b o e)
      dsimp only [gName]
      refine ⟨_, rfl, 1, rfl, _, rfl, aw, zs, rfl, sqt (s04 _ _ haw), en1, fun p1 n1 => ⟨_, rfl, _, rfl, aw, zs, rfl, sqt (stay (s04 _ _ haw) n1), en2, fun p2 n2 => ?_⟩⟩
      rw [ec1] at n2
      rw [ec1, ec2]
      have s5 : Same H4 (upd (upd H4 p1 (.tup (zs.take (zs.length - 1)))) p2 (.tup (zs.drop 1))) := fun b o e => stay (stay e n1) n2
      have hp1 : upd (upd H4 p1 (.tup (zs.take (zs.length - 1)))) p2 (.tup (zs.drop 1)) p1 = some (.tup (zs.take (zs.length - 1))) := stay upd_same n2
      have hp2 : upd (upd H4 p1 (.tup (zs.take (zs.length - 1)))) p2 (.tup (zs.drop 1)) p2 = some (.tup (zs.drop 1)) := upd_same
      generalize upd (upd H4 p1 (.tup (zs.take (zs.length - 1)))) p2 (.tup (zs.drop 1)) = H5 at s5 hp1 hp2
      have lt1 : (zs.take (zs.length - 1)).length = zs.length - 1 := by rw [List.length_take]; omega
      have s25 : Same H2 H5 := same_tr s4 s5
      refine ⟨p1, p2, _, _, rfl, .inr ⟨sqt hp1, sqt hp2, ?_⟩⟩
      refine for_at (n := zs.length - 1) (fun j σ H' => ∃ (o6 o7 o8 : Option V) (u : List Eg) (kp : List (Key × V)), σ = [some (.ref x), some (.ref a), some (.ref aw), some (.ref hh), some (.ref D), some (.int (i : Nat)), o6, o7, o8] ∧ Same H2 H' ∧ H' p1 = some (.tup (zs.take (zs.length - 1))) ∧ H' p2 = some (.tup (zs.drop 1)) ∧ H' D = some (.dK kp) ∧ KeyL kp u ∧ (∀ e ∈ u, e ∈ es) ∧ u.Nodup ∧ goW es ((eds dw').drop j) u i (ds.drop (i + 1)) = runW es ds 0 [])
        ⟨o6, o7, o8, u, kp, rfl, s25, hp1, hp2, s5 _ _ hD4, kl, su, nu, run⟩ ?_ ?_ ?_ ?_
      · rintro j σ H' hj ⟨o6, o7, o8, u, kp, rfl, s6, q1, q2, _⟩
        exact ⟨_, _, (zs.take (zs.length - 1))[j]'(by omega), (zs.drop 1)[j]'(by rw [List.length_drop]; omega), sqt q1, sqt q2, List.getElem?_eq_getElem _, List.getElem?_eq_getElem _⟩
      · rintro σ H' ⟨o6, o7, o8, u, kp, rfl, s6, q1, q2, _⟩
        exact ⟨_, _, sqt q1, sqt q2, Or.inl (by omega)⟩
      · rintro j v σ H' H'' hj ⟨o6, o7, o8, u, kp, rfl, s6, q1, q2, hD, kl, su, nu, run⟩ y
        obtain ⟨T2, v1, v2, rfl, nT2, rfl, f1, f2⟩ := y
        have h1 := f1 _ (sqt q1)
        have h2 := f2 _ (sqt q2)
        rw [List.getElem?_take_of_lt hj] at h1
        rw [List.getElem?_drop, Nat.add_comm] at h2
        obtain ⟨d1, hd1, dv1⟩ := dz.at j v1 h1
        obtain ⟨d2, hd2, dv2⟩ := dz.at (j + 1) v2 h2
        obtain ⟨p, q, rfl, rfl, ep, eq, onp, onq, nb⟩ := walk_at wk hd1 hd2
        obtain ⟨edq, enq⟩ := step_edge onp onq nb
        rw [eds_at hd1 hd2, ep, eq] at run
        refine ⟨T2, _, rfl, sqt upd_same, rfl, _, _, rfl, _, _, rfl, rfl, ?_⟩
        have s7 : Same H2 (upd H' T2 (.tup [v1, v2])) := fun b o e => stay (s6 b o e) nT2
        have q1' : upd H' T2 (.tup [v1, v2]) p1 = some (.tup (zs.take (zs.length - 1))) := stay q1 nT2
        have q2' : upd H' T2 (.tup [v1, v2]) p2 = some (.tup (zs.drop 1)) := stay q2 nT2
        have hD' : upd H' T2 (.tup [v1, v2]) D = some (.dK kp) := stay hD nT2
        generalize upd H' T2 (.tup [v1, v2]) = H7 at s7 q1' q2' hD'
        have s07 : Same H H7 := same_tr s2 s7
        dsimp only [gName]
        refine ⟨_, rfl, _, rfl, v1, v2, p.1, p.2, q.1, q.2, rfl, dv1.more s07, dv2.more s07, fun H8 s8 => ?_⟩
        rw [← enq]
        generalize edOf p q = ee at edq run
        have hk8 : H8 hh = some (.dK kvs) := s8 _ _ (s7 _ _ hk)
        have hD8 : H8 D = some (.dK kp) := s8 _ _ hD'
        have has1 := key_has en.keys edE edq
        have has2 := key_has kl (fun e he => edE e (su e he)) edq
        dsimp only
        have stop : ¬ (ee ∈ es ∧ ee ∉ u) → runW es ds 0 [] = .inl i := fun h => by
          rw [goW_no h] at run
          exact run.symm
        have ret : runW es ds 0 [] = .inl i → Q (.int i) H8 := fun h => by
          have z := qg alw H8 (same_tr s07 s8)
          have e : faultO es ds = some i := by
            unfold faultO
            rw [h]
          rw [e] at z
          exact z
        refine ⟨_, rfl, _, rfl, hh, _, rfl, DGet.k (k := Sum.inl (enum ee)) hk8, _, rfl, ?_⟩
        rw [has1]
        by_cases m1 : ee ∈ es
        · rw [decide_eq_true m1]
          refine ifF rfl ⟨_, rfl, _, rfl, D, _, rfl, DGet.k (k := Sum.inl (enum ee)) hD8, _, rfl, ?_⟩
          rw [has2]
          by_cases m2 : ee ∈ u
          · rw [decide_eq_true m2]
            exact ifT rfl ⟨_, rfl, ret (stop fun h => h.2 m2)⟩
          · rw [decide_eq_false m2]
            have non : valV kp (Sum.inl (enum ee)) = none := by
              rw [decide_eq_false m2] at has2
              exact Option.not_isSome_iff_eq_none.mp (by rw [has2]; exact Bool.false_ne_true)
            have lu : u.length ≤ 400 := Nat.le_trans (sub_len nu su) l400
            have lk := key_len kl
            rw [goW_yes m1 m2] at run
            refine ifF rfl ⟨_, rfl, _, rfl, D, _, rfl, DPut.k (k := Sum.inl (enum ee)) hD8 (Nat.lt_of_le_of_lt (show kp.length ≤ 1000 by omega) (by decide)), ?_⟩
            have nDe : ∀ b o, H2 b = some o → b ≠ D := fun b o e z => by rw [z, nD] at e; cases e
            have ne1 : p1 ≠ D := ne_of_none hD4 n1 |>.symm
            have ne2 : p2 ≠ D := ne_of_none (stay hD4 n1) n2 |>.symm
            rw [putK_new (.bl true) non]
            refine ⟨_, _, _, u ++ [ee], _, rfl, fun b o e => ?_, ?_, ?_, upd_same, key_snoc kl, fun e he => ?_, ?_, run⟩
            · rw [upd_ne (nDe b o e)]
              exact s8 _ _ (s7 _ _ e)
            · rw [upd_ne ne1]
              exact s8 _ _ q1'
            · rw [upd_ne ne2]
              exact s8 _ _ q2'
            · rcases List.mem_append.mp he with h | h
              · exact su e h
              · rw [List.mem_singleton.mp h]
                exact m1
            · rw [List.nodup_append]
              refine ⟨nu, by simp, ?_⟩
              rintro a ha b hb rfl
              rw [List.mem_singleton.mp hb] at ha
              exact m2 ha
        · rw [decide_eq_false m1]
          exact ifT rfl ⟨_, rfl, ret (stop fun h => m1 h.1)⟩
      · rintro σ H' ⟨o6, o7, o8, u, kp, rfl, s6, q1, q2, hD, kl, su, nu, run⟩
        rw [List.drop_of_length_le (by rw [eds_len]; omega), goW_nil] at run
        exact ⟨_, _, _, _, _, u, kp, rfl, s6, hD, kl, su, nu, run⟩
    · rintro σ H' ⟨o2, o5, o6, o7, o8, u, kp, rfl, s3, hD, kl, su, nu, run⟩
      rw [List.drop_of_length_le (by omega)] at run
      have run : (Sum.inr u : Nat ⊕ List Eg) = runW es ds 0 [] := run
      have e : faultO es ds = if u.length = es.length then none else some ds.length := by
        unfold faultO
        rw [← run]
      have z := qg alw H' (same_tr s2 s3)
      rw [e] at z
      have lk := key_len kl
      have lh := key_len en.keys
      refine ⟨_, rfl, D, kp, rfl, hD, _, rfl, hh, kvs, rfl, s3 _ _ hk, rfl, _, rfl, ?_⟩
      by_cases c : u.length = es.length
      · rw [if_pos c] at z
        exact ifT (decide_eq_true (by rw [lk, lh, c])) z
      · rw [if_neg c] at z
        refine ifF (decide_eq_false fun h => c ?_) ⟨_, rfl, a, xs, rfl, ?_, ?_⟩
        · have := V.int.inj h
          omega
        · rcases ho with rfl | rfl
          · exact .inl (SqL.of (s3 _ _ (s2 _ _ ha)))
          · exact .inr (SqT.of (s3 _ _ (s2 _ _ ha)))
        · rw [ln]
          exact z
end
end Y1
set_option Elab.async false
set_option linter.all false
set_option maxRecDepth 100000
set_option maxHeartbeats 4000000
/-! xs[::-1] of a list and of a tuple. -/
namespace Nv
open PySem PySem.Spec PyProof.Rows L2
section
variable {prog : Program} {w : World} {A : Around} {E : Value → Shared → Prop} {s : Shared}
theorem adj_rev (n : Nat) : Builtin.Slice.sliceAdjust none none (-1) (n : Int) = ((n : Int) - 1, -1) := rfl
theorem places_rev (n : Nat) : Builtin.Slice.slicePlaces ((n : Int) - 1) (-1) (-1) = n := by
  unfold Builtin.Slice.slicePlaces
  have h1 : ¬ ((-1 : Int) > 0) := by omega
  rw [if_neg h1]
  by_cases h : (n : Int) - 1 > -1
  · rw [if_pos h]
    have e : ((n : Int) - 1 - -1 - 1) / (- -1) + 1 = (n : Int) := by
      rw [show (- -1 : Int) = 1 by decide, Int.ediv_one]
      omega
    rw [e, Int.toNat_natCast]
  · rw [if_neg h]
    have : n = 0 := by omega
    subst this
    rfl
theorem applied_rev {sl : Addr} {vs : Value} {n : Nat} {Q : Int × Int × Nat → Shared → Prop} (hs : s.heap.IsSliceOf sl .none .none vs) (ps : IsPart vs (some (-1)))
    (h : Q ((n : Int) - 1, -1, n) s) : wpAny (model prog w) A (Builtin.Slice.sliceApplied (.ref sl) (pure (n : Int))) Q E s := by
  obtain ⟨os, hos, hcs, hds⟩ := id hs
  unfold Builtin.Slice.sliceApplied Builtin.Slice.sliceFields
  refine wpAny_bind (wpAny_bind (wpAny_field hos hds (x := .none) rfl (wpAny_bind (wpAny_field hos hds (x := .none) rfl (wpAny_bind (wpAny_field hos hds (x := vs) rfl (wpAny_pure ?_)))))))
  refine wpAny_bind (HT.slicePart_ ps ?_)
  show wpAny _ _ (if ((-1 : Int) == 0) = true then _ else _) _ _ s
  rw [if_neg (by decide)]
  refine wpAny_bind (slicePart_none (wpAny_bind (slicePart_none (wpAny_bind (wpAny_pure ?_)))))
  show wpAny _ _ (match Builtin.Slice.sliceAdjust none none (-1) (n : Int) with | (lo, hi) => pure (lo, (-1 : Int), Builtin.Slice.slicePlaces lo hi (-1))) _ _ s
  rw [adj_rev n]
  show wpAny _ _ (pure ((n : Int) - 1, (-1 : Int), Builtin.Slice.slicePlaces ((n : Int) - 1) (-1) (-1))) _ _ s
  rw [places_rev]
  exact wpAny_pure h
theorem pick_rev (xs : Array Value) : ((List.range xs.size).filterMap fun (m : Nat) => xs[((xs.size : Int) - 1 + (m : Int) * -1).toNat]?).toArray = xs.toList.reverse.toArray := by
  have e : (fun (m : Nat) => xs[((xs.size : Int) - 1 + (m : Int) * -1).toNat]?) = fun (m : Nat) => (fun k => xs[k]?) (((xs.size : Int) - 1 - (m : Int)).toNat) := by
    funext m
    dsimp only
    congr 1
    omega
  have e3 : (List.range xs.size).filterMap (fun (m : Nat) => (fun k => xs[k]?) (((xs.size : Int) - 1 - (m : Int)).toNat)) = ((List.range xs.size).map (fun m : Nat => ((xs.size : Int) - 1 - (m : Int)).toNat)).filterMap fun k => xs[k]? := by
    rw [List.filterMap_map]
    rfl
  rw [e, e3]
  have e2 : (List.range xs.size).map (fun m : Nat => ((xs.size : Int) - 1 - m).toNat) = (List.range xs.size).map fun k => xs.size - 1 - k := by
    refine List.map_congr_left fun m hm => ?_
    have := List.mem_range.mp hm
    omega
  rw [e2, PySem.W.krv_range, List.filterMap_reverse, PySem.W.krv_all]
theorem getItem_tuple_rev {t sl : Addr} {items : Array Value} {vs : Value} {Q : Value → Shared → Prop} (ht : IsTup s.heap t items) (hs : s.heap.IsSliceOf sl .none .none vs) (ps : IsPart vs (some (-1)))
    (h : Q (.ref s.heap.objs.size) { s with heap := s.heap.push { cls := .type "tuple", data := .seq items.toList.reverse.toArray } })
    (hsz : items.size ≤ sizeLine) : wpAny (model prog w) A (getItem (.ref t) (.ref sl)) Q E s := by
  have htake : sizeOk (.seq items.toList.reverse.toArray) := by
    show items.toList.reverse.toArray.size ≤ sizeLine
    rw [List.size_toArray, List.length_reverse, Array.length_toList]
    exact hsz
  obtain ⟨os, hos, hcs, hds⟩ := id hs
  have hTs : s.TypeIs (.ref sl) "slice" := ⟨os, hos, hcs⟩
  unfold getItem
  try with_reducible refine wpAny_holding ?_
  first | refine wpAny_bind (wpAny_pure ?_) | skip
  refine wpAny_bind (wpAny_sequenceKey ht.typeIs (by decide) ?_)
  refine wpAny_bind (wpAny_callSpecial?_slot (name := Str.ofString "__getitem__") ht.typeIs PyProof.Rows.slot_tuple_getitem
    (wpAny_call_entry PyProof.Rows.slot_tuple_getitem ht.typeIs entry_tuple_getitem ?_ (args_tuple_getitem _ _)))
  show wpAny _ _ (Builtin.Tuple.tupleItemsOf (.ref t) >>= _) _ _ s
  refine wpAny_bind (tupleItemsOf_ ht ?_)
  refine wpAny_bind (wpAny_typeOf hTs ?_)
  rw [if_pos (by decide)]
  refine wpAny_bind (applied_rev (n := items.size) hs ps ?_)
  have hno : ¬ ((((items.size : Int) - 1 == 0) && (-1 : Int) == 1 && items.size == items.size) = true) := by
    intro q
    rw [Bool.and_eq_true, Bool.and_eq_true] at q
    exact absurd (eq_of_beq q.1.2) (by decide)
  show wpAny _ _ (if ((((items.size : Int) - 1 == 0) && (-1 : Int) == 1 && items.size == items.size) = true) then _ else _) _ _ s
  rw [if_neg hno, pick_rev]
  first
    | exact wpAny_bind (m := Builtin.Tuple.tupleExact _) (wpAny_newObj_type (wpAny_pure ⟨_, rfl, wpAny_pure h⟩) htake)
    | exact wpAny_bind (m := Builtin.Tuple.tupleExact _) (wpAny_newObj_type (wpAny_bind (wpAny_pure (wpAny_pure ⟨_, rfl, wpAny_pure h⟩))) htake)
    | exact wpAny_bind (wpAny_bind (m := Builtin.Tuple.tupleExact _) (wpAny_newObj_type (wpAny_pure (wpAny_pure ⟨_, rfl, wpAny_pure h⟩)) htake))
    | exact wpAny_bind (wpAny_bind (m := Builtin.Tuple.tupleExact _) (wpAny_newObj_type (wpAny_pure ⟨_, rfl, wpAny_pure h⟩) htake))
end
section
variable {X : Cx} {e st : Expr} {te ts : TE} {pos p2 : Pos}
def RvR (X : Cx) (r : V → Hp → VK → Prop) : Prop :=
  ∀ (pins : List (Addr × Obj)) (s : Shared) (σ : L2.St) (H : Hp) (x : V) (v vs : Value) (sl : Addr) (Q : VK), Inv X pins σ H s → RelV x v → s.heap.IsSliceOf sl .none .none vs → IsPart vs (some (-1)) → r x H Q →
    ∃ T id, typeLookup (.type T) "__getitem__" = pure (some (.builtin id)) ∧ s.TypeIs v T ∧ wpAny (model X.prog X.w) X.A (getItem v (.ref sl)) (EP X pins σ Q) X.xe s
def tRv (r : V → Hp → VK → Prop) (te ts : TE) : TE := fun σ H Q => te σ H fun x H1 => ts σ H1 fun y H2 => y = .int (-1) ∧ r x H2 Q
theorem pe_rev {r : V → Hp → VK → Prop} (hr : RvR X r) (he : PE X e te) (hst : PE X st ts) : PE X (.Subscript e (.Slice none none (some st) p2) pos) (tRv r te ts) := by
  refine ⟨fun pins s σ H Q I h => ?_⟩
  refine Subscript_ (thn (he.run pins s σ H _ I h) fun v s1 ⟨x, H1, I1, r1, q1⟩ => ?_)
  refine wpAny_Slice ?_
  rw [evalPart_none]
  refine wpAny_pure (wpAny_pure ?_)
  rw [evalPart_some]
  refine thn (hst.run pins s1 σ H1 _ I1 q1) fun vs s3 ⟨y, H3, I3, r3, e3, q3⟩ => ?_
  subst e3
  obtain ⟨t, rfl⟩ := (show ∃ t, vs = Value.int (-1) t from r3)
  have I4 : Inv X pins σ H3 { s3 with heap := s3.heap.push { cls := .type "slice", data := .fields #[.none, .none, .int (-1) t] } } := I3.kept (t' := s3.toks) fun b ob q => Heap.get?_push_of_some _ q
  obtain ⟨T, id, hT, ht, hg⟩ := hr pins { s3 with heap := s3.heap.push { cls := .type "slice", data := .fields #[.none, .none, .int (-1) t] } } σ H3 x v (.int (-1) t) s3.heap.objs.size Q I4 r1 (Heap.IsSliceOf.new ..) (IsPart.int _ _) q3
  show wpAny (model X.prog X.w) X.A (subscriptTail e (.Slice none none (some st) p2) v (.ref s3.heap.objs.size)) (EP X pins σ Q) X.xe { s3 with heap := s3.heap.push { cls := .type "slice", data := .fields #[.none, .none, .int (-1) t] } }
  exact tail_any (ops := [v, .ref s3.heap.objs.size]) ht hT hg (by with_unfolding_all rfl)
def rRvL (K : PySem.W.Frag) : V → Hp → VK → Prop := fun x H Q => ∃ a xs, x = .ref a ∧ SqL K H a xs ∧ ∀ p, H p = none → Q (.ref p) (upd H p (.lst xs.reverse))
def rRvT (K : PySem.W.Frag) : V → Hp → VK → Prop := fun x H Q => ∃ a xs, x = .ref a ∧ SqT K H a xs ∧ ∀ p, H p = none → Q (.ref p) (upd H p (.tup xs.reverse))
theorem rv_tup : RvR X (rRvT X.K) := by
  intro pins s σ H x v vs sl Q I rx hs ps h
  obtain ⟨a, xs, rfl, hx, q⟩ := h
  cases rx
  obtain ⟨its, r, ht, hz⟩ := I.tuple hx
  have hlen := r.length
  refine ⟨"tuple", _, PyProof.Rows.slot_tuple_getitem.lookup, ht.typeIs, ?_⟩
  refine getItem_tuple_rev ht hs ps ?_ (by rw [List.size_toArray]; omega)
  refine ⟨.ref s.heap.objs.size, _, I.laid (t' := s.toks) (o := .tup xs.reverse) (fun b ob q => Heap.get?_push_of_some _ q) (Nat.le_refl _) ?_, rfl, q _ (I.hok.fresh (Nat.le_refl _))⟩
  exact ⟨by rw [List.length_reverse]; exact hz, _, r.reverse, IsTup.new _ _⟩
theorem rv_list : RvR X (rRvL X.K) := by
  intro pins s σ H x v vs sl Q I rx hs ps h
  obtain ⟨a, xs, rfl, hx, q⟩ := h
  cases rx
  obtain ⟨its, r, ht, hz⟩ := I.list hx
  have hlen := r.length
  refine ⟨"list", _, slot_list_getitem.lookup, ht.isList.typeIs, ?_⟩
  refine wpAny_getItem_list_slice ht.isList hs .none .none ps (by decide) ?_ (by rw [List.size_toArray] <;> omega)
  rw [PySem.W.krv_pick]
  refine ⟨.ref s.heap.objs.size, _, I.laid (t' := s.toks) (o := .lst xs.reverse) (fun b ob q => Heap.get?_push_of_some _ q) (Nat.le_refl _) ?_, rfl, q _ (I.hok.fresh (Nat.le_refl _))⟩
  exact ⟨by rw [List.length_reverse]; exact hz, _, 0, r.reverse, Heap.get?_push_size _ rfl⟩
end
end Nv
set_option Elab.async false
set_option linter.all false
set_option maxRecDepth 100000
set_option maxHeartbeats 16000000
/-! More expressions that make data. -/
namespace Y1
open PySem PySem.Spec PyProof.Rows L2 Nv
def iab (i : Int) : Int := if i < 0 then -i else i
def rAbs : List V → Hp → VK → Prop := fun xs H Q => ∃ i, xs = [.int i] ∧ Q (.int (if i < 0 then -i else i)) H
def flatD : PyData → Bool
  | .none => true
  | .bool _ => true
  | .int _ => true
  | _ => false
theorem flat_imm {d : PyData} (h : flatD d = true) : imm d = true := by
  cases d with
  | none => simp [imm]
  | bool b => simp [imm]
  | int i => simp [imm]
  | _ => cases h
theorem imms_flat : ∀ {ds : List PyData}, (∀ d ∈ ds, flatD d = true) → imms ds = true := fun h => imms_all fun d hd => flat_imm (h d hd)
theorem shaped_flat {ds : List PyData} (h : ∀ d ∈ ds, flatD d = true) : SeqAt.shaped (.list ds) = true := by
  have a : PyData.canLayAll0 ds = true ∧ PyData.depthAll ds = 0 := by
    induction ds with
    | nil => exact ⟨by simp [PyData.canLayAll0], by simp [PyData.depthAll]⟩
    | cons d r ih =>
      obtain ⟨h1, h2⟩ := ih fun x hx => h x (List.mem_cons_of_mem _ hx)
      have hd := h d List.mem_cons_self
      have l : d.canLay0 = true ∧ d.depth = 0 := by
        cases d with
        | none => exact ⟨by simp [PyData.canLay0], by simp [PyData.depth]⟩
        | bool b => exact ⟨by simp [PyData.canLay0], by simp [PyData.depth]⟩
        | int i => exact ⟨by simp [PyData.canLay0], by simp [PyData.depth]⟩
        | _ => cases hd
      exact ⟨by rw [PyData.canLayAll0, l.1, h1]; rfl, by rw [PyData.depthAll, l.2, h2]; rfl⟩
  show (PyData.canLay0 (.list ds) && decide (PyData.depth (.list ds) ≤ 64)) = true
  rw [Bool.and_eq_true]
  refine ⟨by simp only [PyData.canLay0]; exact a.1, decide_eq_true ?_⟩
  show PyData.depthAll ds + 1 ≤ 64
  omega
theorem dvs_drop {H : Hp} : ∀ {vs : List V} {ds : List PyData} (n : Nat), DVs H vs ds → DVs H (vs.drop n) (ds.drop n)
  | _, _, 0, h => h
  | _, _, _ + 1, .nil => .nil
  | _, _, n + 1, .cons _ t => dvs_drop n t
theorem dvs_take {H : Hp} : ∀ {vs : List V} {ds : List PyData} (n : Nat), DVs H vs ds → DVs H (vs.take n) (ds.take n)
  | _, _, 0, _ => .nil
  | _, _, _ + 1, .nil => .nil
  | _, _, n + 1, .cons h t => .cons h (dvs_take n t)
theorem dvs_rev {H : Hp} : ∀ {vs : List V} {ds : List PyData}, DVs H vs ds → DVs H vs.reverse ds.reverse
  | _, _, .nil => .nil
  | _, _, .cons h t => by
    rw [List.reverse_cons, List.reverse_cons]
    exact dvs_app (dvs_rev t) (.cons h .nil)
theorem shaped_nil : SeqAt.shaped (.list []) = true := by simp [SeqAt.shaped, PyData.canLay0, PyData.canLayAll0, PyData.depth, PyData.depthAll]
theorem eqv_nilD (ds : List PyData) : PyData.eqv (.list ds) (.list []) = decide (ds = []) := by
  cases ds with
  | nil => simp [PyData.eqv, PyData.eqvAll]
  | cons d r => simp [PyData.eqv, PyData.eqvAll]
section
variable {K : PySem.W.Frag} {σ : L2.St} {H0 : Hp}
theorem mak_isi {t : TE} {d : PyData} {n : String} {b : Bool} (h : Mak σ H0 t d) (k : kitB (tyN d) n = some b) : Mak σ H0 (tCB (rIsi K) (tCons t (tCons (tC (.ty n)) tNil))) (.bool b) := fun H Q s q =>
  h H _ s fun v H1 s1 dv => ⟨v, .ty n, .type (tyN d), .type n, b, rfl, .ty _, ty_of dv, kit_ty k, q _ H1 s1 (.bl _)⟩
theorem mak_opB {t1 t2 : TE} {g : Int → Int → Bool} {i j : Int} (h : Mak σ H0 t1 (.int i)) (k : Mak σ H0 t2 (.int j)) : Mak σ H0 (tOp (rI0 fun i j => V.bl (g i j)) t1 t2) (.bool (g i j)) := fun H Q s q =>
  h H _ s fun v H1 s1 dv => k H1 _ (same_tr s s1) fun u H2 s2 du => by
    cases dv
    cases du
    exact ⟨_, _, rfl, rfl, q _ H2 (same_tr s1 s2) (.bl _)⟩
theorem mak_neI {t1 t2 : TE} {i j : Int} (h : Mak σ H0 t1 (.int i)) (k : Mak σ H0 t2 (.int j)) : Mak σ H0 (tOp rNe t1 t2) (.bool (!decide (i = j))) := fun H Q s q =>
  h H _ s fun v H1 s1 dv => k H1 _ (same_tr s s1) fun u H2 s2 du => by
    cases dv
    cases du
    refine ⟨rfl, ?_⟩
    have e : decide (V.int i = V.int j) = decide (i = j) := decide_eq_decide.mpr ⟨V.int.inj, fun z => by rw [z]⟩
    rw [e]
    exact q _ H2 (same_tr s1 s2) (.bl _)
theorem mak_abs {t : TE} {i : Int} (h : Mak σ H0 t (.int i)) : Mak σ H0 (tCB rAbs (tCons t tNil)) (.int (iab i)) := fun H Q s q =>
  h H _ s fun v H1 s1 dv => by
    cases dv
    exact ⟨i, rfl, q _ H1 s1 (.int _)⟩
theorem mak_neNil {t : TE} {ds : List PyData} (h : Mak σ H0 t (.list ds)) (im : imms ds = true) (sh : SeqAt.shaped (.list ds) = true) : Mak σ H0 (tOp (rNeD K) t (tLst tNil)) (.bool (!decide (ds = []))) := fun H Q s q =>
  h H _ s fun v H1 s1 dv => by
    obtain ⟨a, xs, rfl, ha, dx⟩ := dv_lst dv
    refine ⟨Nat.zero_le _, fun z nz => ?_⟩
    have s3 : Same H1 (upd H1 z (.lst [])) := fun b o e => stay e nz
    refine ⟨.list ds, .list [], .lst (SqL.of (s3 _ _ ha)) (dps_of (dx.more s3) im), .lst (SqL.of upd_same) .nil, sh, shaped_nil, ?_⟩
    rw [eqv_nilD]
    exact q _ _ (same_tr s1 s3) (.bl _)
theorem mak_eqNil {t : TE} {ds : List PyData} (h : Mak σ H0 t (.list ds)) (im : imms ds = true) (sh : SeqAt.shaped (.list ds) = true) : Mak σ H0 (tOp (rEqD K) t (tLst tNil)) (.bool (decide (ds = []))) := fun H Q s q =>
  h H _ s fun v H1 s1 dv => by
    obtain ⟨a, xs, rfl, ha, dx⟩ := dv_lst dv
    refine ⟨Nat.zero_le _, fun z nz => ?_⟩
    have s3 : Same H1 (upd H1 z (.lst [])) := fun b o e => stay e nz
    refine ⟨.list ds, .list [], .lst (SqL.of (s3 _ _ ha)) (dps_of (dx.more s3) im), .lst (SqL.of upd_same) .nil, sh, shaped_nil, ?_⟩
    rw [eqv_nilD]
    exact q _ _ (same_tr s1 s3) (.bl _)
/-- what a comprehension does with what it has at the i-th item -/
theorem lc_step {σ : L2.St} {vs : List Nat} {tt : TT} {te : TE} {D : Addr} {H1 H' : Hp} {σ2 : L2.St} {b : Bool} {f : PyData} {acc : List V} {ac : List PyData} (hw : wipe σ2 vs = wipe σ vs) (ht : MakT σ2 H' tt b) (he : b = true → Mak σ2 H' te f) (im : imms ac = true) (imf : b = true → imm f = true) (la : ac.length ≤ 100000)
    (nD : H1 D = none) (sm : Same H1 H') (hD : H' D = some (.lst acc)) (dacc : DVs H' acc ac) {Nx : Hp → Prop}
    (q : ∀ H'' acc', Same H1 H'' → H'' D = some (.lst acc') → DVs H'' acc' (if b = true then ac ++ [f] else ac) → Nx H'') :
    wipe σ2 vs = wipe σ vs ∧ tt σ2 H' fun b H3 => if b = true then te σ2 H3 fun y H4 => ∃ acc, H4 D = some (.lst acc) ∧ acc.length < sizeLine ∧ Nx (upd H4 D (.lst (acc ++ [y]))) else Nx H3 := by
  have nDH : ∀ b o, H1 b = some o → b ≠ D := fun b o e z => by rw [z, nD] at e; cases e
  refine ⟨hw, ht H' _ (same0 _) fun H2 s2 => ?_⟩
  cases b with
  | true =>
    rw [if_pos rfl]
    refine he rfl H2 _ s2 fun z H3 s3 dz => ?_
    have hD3 := s3 _ _ (s2 _ _ hD)
    refine ⟨acc, hD3, ?_, q _ _ (fun b o e => by rw [upd_ne (nDH b o e)]; exact s3 _ _ (s2 _ _ (sm b o e))) upd_same ?_⟩
    · rw [dacc.length]
      exact Nat.lt_of_le_of_lt la (by decide)
    · rw [if_pos rfl]
      have tk : Tk H3 (upd H3 D (.lst (acc ++ [z]))) := but_tk but_upd fun ws e => by rw [hD3] at e; cases e
      exact dvs_app (dvs_tk tk ((dacc.more s2).more s3) im) (.cons (dv_tk tk dz (imf rfl)) .nil)
  | false =>
    rw [if_neg (by decide)]
    refine q _ acc (same_tr sm s2) (s2 _ _ hD) ?_
    rw [if_neg (by decide)]
    exact dacc.more s2
/-- [f(x) for x in a tuple if pr(x)], over data -/
theorem mak_lcT {tl : TE} {g : TG} {tt : TT} {te : TE} {vs : List Nat} {ds : List PyData} (pr : PyData → Bool) (f : PyData → PyData) (h : Mak σ H0 tl (.tuple ds)) (small : ds.length ≤ 100000) (im : ∀ d ∈ ds, pr d = true → imm (f d) = true)
    (step : ∀ (H : Hp) (x : V) (d : PyData), Same H0 H → d ∈ ds → DV H x d → ∃ σ2, wipe σ2 vs = wipe σ vs ∧ (∀ Q, Q σ2 H → g x (wipe σ vs) H Q) ∧ MakT σ2 H tt (pr d) ∧ (pr d = true → Mak σ2 H te (f d))) :
    Mak σ H0 (tLc (iTup K tl) g tt te vs) (.list ((ds.filter pr).map f)) := fun H Q s q =>
  h H _ s fun v H1 s1 dv => by
    obtain ⟨a, xs, rfl, ha, dx⟩ := dv_tup dv
    refine ⟨a, rfl, ⟨_, SqT.of ha⟩, fun D nD => ?_⟩
    refine lc_tup (K := K) (xs := xs) (fun i H' => Same H1 H' ∧ ∃ acc, H' D = some (.lst acc) ∧ DVs H' acc (((ds.take i).filter pr).map f)) ⟨fun b o e => stay e nD, [], upd_same, .nil⟩ (fun i H' _ z => SqT.of (z.1 _ _ ha)) ?_ ?_
    · rintro i y H' hy ⟨sm, acc, hD, dacc⟩
      obtain ⟨d, hd, dy⟩ := dx.at i y hy
      have st : ds.take (i + 1) = ds.take i ++ [d] := by rw [List.take_add_one, hd]; rfl
      have md := List.mem_of_getElem? hd
      obtain ⟨σ2, hw, hg, ht, he⟩ := step H' y d (same_tr s (same_tr s1 sm)) md (dy.more sm)
      refine hg _ (lc_step hw ht he (imms_all fun z hz => ?_) (im d md) ?_ nD sm hD dacc fun H'' acc' s' hD' d' => ⟨s', acc', hD', ?_⟩)
      · obtain ⟨x, hx, rfl⟩ := List.mem_map.mp hz
        exact im x (List.mem_of_mem_take (List.mem_filter.mp hx).1) (List.mem_filter.mp hx).2
      · rw [List.length_map]
        have l1 := List.length_filter_le pr (ds.take i)
        rw [List.length_take] at l1
        omega
      · rw [st, List.filter_append, List.map_append, List.filter_cons, List.filter_nil]
        by_cases m : pr d = true
        · rw [if_pos m] at d' ⊢
          exact d'
        · rw [if_neg m] at d' ⊢
          rw [List.map_nil, List.append_nil]
          exact d'
    · rintro H' ⟨sm, acc, hD, dacc⟩
      rw [dx.length, List.take_length] at dacc
      exact q _ H' (same_tr s1 sm) (.lst hD dacc)
/-- [f for a, b in zip(t, t[1:])] -/
theorem mak_lcZ {t1 t2 : TE} {g : TG} {te : TE} {vs : List Nat} {ds : List PyData} (f : PyData → PyData → PyData) (h1 : Mak σ H0 t1 (.tuple ds)) (h2 : Mak σ H0 t2 (.tuple (ds.drop 1))) (small : ds.length ≤ 100000) (im : ∀ a b, imm (f a b) = true)
    (step : ∀ (H : Hp) (T : Addr) (x y : V) (a b : PyData), Same H0 H → a ∈ ds → b ∈ ds → H T = some (.tup [x, y]) → DV H x a → DV H y b → ∃ σ2, wipe σ2 vs = wipe σ vs ∧ (∀ Q, Q σ2 H → g (.ref T) (wipe σ vs) H Q) ∧ Mak σ2 H te (f a b)) :
    Mak σ H0 (tLc (RZ.iZipA K (tCons t1 (tCons t2 tNil))) g tYes te vs) (.list ((ds.zip (ds.drop 1)).map fun p => f p.1 p.2)) := fun H Q s q =>
  h1 H _ s fun v H1 s1 dv => h2 H1 _ (same_tr s s1) fun u H2 s2 du => by
    obtain ⟨a, xs, rfl, ha, dx⟩ := dv_tup dv
    obtain ⟨b, ys, rfl, hb, dy⟩ := dv_tup du
    have ha2 := s2 _ _ ha
    have dx2 := dx.more s2
    have lx := dx.length
    have ly := dy.length
    rw [List.length_drop] at ly
    refine ⟨a, b, xs, ys, rfl, .inr ⟨SqT.of ha2, SqT.of hb, fun D nD => ?_⟩⟩
    have zl : (ds.zip (ds.drop 1)).length = ys.length := by rw [List.length_zip, List.length_drop]; omega
    let Pv : Nat → Hp → Prop := fun i H' => Same H2 H' ∧ ∃ acc, H' D = some (.lst acc) ∧ DVs H' acc (((ds.zip (ds.drop 1)).take i).map fun p => f p.1 p.2)
    refine ⟨fun i m H => m = ys.length - i ∧ i ≤ ys.length ∧ Pv i H, ⟨ys.length, rfl, Nat.zero_le _, fun b o e => stay e nD, [], upd_same, .nil⟩, ?_⟩
    rintro i m H' ⟨rfl, hi, sm, acc, hD, dacc⟩
    by_cases hlt : i < ys.length
    · have hx : xs[i]? = some (xs[i]'(by omega)) := List.getElem?_eq_getElem _
      have hy : ys[i]? = some ys[i] := List.getElem?_eq_getElem hlt
      refine .inr ⟨⟨xs, ys, _, _, SqT.of (sm _ _ ha2), SqT.of (sm _ _ hb), hx, hy⟩, Pv (i + 1), fun H' p' => ⟨ys.length - (i + 1), by omega, rfl, hlt, p'⟩, fun v H'' y => ?_⟩
      obtain ⟨T, x', y', rfl, hT, rfl, f1, f2⟩ := y
      have gx := f1 xs (SqT.of (sm _ _ ha2))
      have gy := f2 ys (SqT.of (sm _ _ hb))
      obtain ⟨da, hda, dax⟩ := dx2.at i x' gx
      obtain ⟨db, hdb, dby⟩ := dy.at i y' gy
      have s4 : Same H2 (upd H' T (.tup [x', y'])) := fun b o e => stay (sm b o e) hT
      have s5 : Same H' (upd H' T (.tup [x', y'])) := fun b o e => stay e hT
      have hz : (ds.zip (ds.drop 1))[i]? = some (da, db) := List.getElem?_zip_eq_some.mpr ⟨hda, hdb⟩
      have st : (ds.zip (ds.drop 1)).take (i + 1) = (ds.zip (ds.drop 1)).take i ++ [(da, db)] := by rw [List.take_add_one, hz]; rfl
      obtain ⟨σ2, hw, hg, he⟩ := step (upd H' T (.tup [x', y'])) T x' y' da db (same_tr s (same_tr s1 (same_tr s2 s4))) (List.mem_of_getElem? hda) (List.mem_of_mem_drop (List.mem_of_getElem? hdb)) upd_same (dax.more s4) (dby.more s4)
      refine hg _ (lc_step (b := true) hw mkt_yes (fun _ => he) (imms_all fun z hz => ?_) (fun _ => im da db) ?_ nD s4 (s5 _ _ hD) (dacc.more s5) fun H'' acc' s' hD' d' => ⟨s', acc', hD', ?_⟩)
      · obtain ⟨x, hx, rfl⟩ := List.mem_map.mp hz
        exact im _ _
      · rw [List.length_map, List.length_take]
        omega
      · rw [st, List.map_append]
        rw [if_pos rfl] at d'
        exact d'
    · have e : i = ys.length := by omega
      subst e
      refine .inl ⟨⟨xs, ys, SqT.of (sm _ _ ha2), SqT.of (sm _ _ hb), Or.inr (Nat.le_refl _)⟩, ?_⟩
      rw [List.take_of_length_le (by omega)] at dacc
      exact q _ H' (same_tr s1 (same_tr s2 sm)) (.lst hD dacc)
/-- t[1:] -/
theorem mak_tail {t : TE} {ds : List PyData} (h : Mak σ H0 t (.tuple ds)) (two : 1 ≤ ds.length) : Mak σ H0 (tSl (rSlT K) t (tPart (tC (.int 1))) tNoPart) (.tuple (ds.drop 1)) := fun H Q s q =>
  h H _ s fun v H1 s1 dv => by
    obtain ⟨a, xs, rfl, ha, dx⟩ := dv_tup dv
    have ln := dx.length
    have e1 : HT.sIx xs.length 0 (some 1) = 1 := by
      show (if (1 : Int) < 0 then (1 + (xs.length : Int)).toNat else min (1 : Int).toNat xs.length) = 1
      rw [if_neg (by decide)]
      have : (1 : Int).toNat = 1 := rfl
      omega
    have ec : cutV xs (some 1) none = xs.drop 1 := by
      unfold cutV
      rw [e1]
      show (xs.drop 1).take (xs.length - 1) = xs.drop 1
      exact List.take_of_length_le (by rw [List.length_drop]; omega)
    refine ⟨1, rfl, a, xs, rfl, SqT.of ha, fun z => ?_, fun p np => ?_⟩
    · rw [e1] at z
      omega
    · rw [ec]
      have s3 : Same H1 (upd H1 p (.tup (xs.drop 1))) := fun b o e => stay e np
      exact q _ _ (same_tr s1 s3) (.tup upd_same ((dvs_drop 1 dx).more s3))
theorem mak_lenT {t : TE} {ds : List PyData} (h : Mak σ H0 t (.tuple ds)) : Mak σ H0 (tCB (fun xs H Q => ∃ p ys, xs = [.ref p] ∧ (SqL K H p ys ∨ SqT K H p ys) ∧ Q (.int ys.length) H) (tCons t tNil)) (.int ds.length) := fun H Q s q =>
  h H _ s fun v H1 s1 dv => by
    obtain ⟨a, xs, rfl, ha, dx⟩ := dv_tup dv
    refine ⟨a, xs, rfl, .inr (SqT.of ha), ?_⟩
    rw [dx.length]
    exact q _ H1 s1 (.int _)
theorem mak_lenL {t : TE} {ds : List PyData} (h : Mak σ H0 t (.list ds)) : Mak σ H0 (tCB (fun xs H Q => ∃ p ys, xs = [.ref p] ∧ (SqL K H p ys ∨ SqT K H p ys) ∧ Q (.int ys.length) H) (tCons t tNil)) (.int ds.length) := fun H Q s q =>
  h H _ s fun v H1 s1 dv => by
    obtain ⟨a, xs, rfl, ha, dx⟩ := dv_lst dv
    refine ⟨a, xs, rfl, .inl (SqL.of ha), ?_⟩
    rw [dx.length]
    exact q _ H1 s1 (.int _)
end
theorem b_ {σ : L2.St} {H : Hp} {t : TT} {b c : Bool} (h : MakT σ H t b) (e : b = c) : MakT σ H t c := e ▸ h
theorem d_ {σ : L2.St} {H : Hp} {t : TE} {b c : PyData} (h : Mak σ H t b) (e : b = c) : Mak σ H t c := e ▸ h
theorem next_i {D : Ends} {σ : L2.St} {H : Hp} (h : D.nx σ H) : tNext D σ H := h
def coV : PyData → Bool
  | .int i => decide (i < 0)
  | _ => true
def coW : PyData → Bool
  | .int i => decide (30 < i)
  | _ => true
end Y1
set_option Elab.async false
set_option linter.all false
set_option maxRecDepth 100000
set_option maxHeartbeats 16000000
/-! _law_is_walk. -/
namespace Y1
open PySem PySem.Spec PyProof.Rows L2 Nv
abbrev lwN : List Str := ["_law_value", "_law_point", "_law_steps", "_law_one", "_law_a", "_law_b", "_law_step"]
structure Tab (mg : Str → Option Value) : Prop where
  abs : mg "abs" = none
/-- a walk is asked of it -/
def askW (d : PyData) : Prop := ∀ ds, d = .tuple ds → ds.length ≤ 1000 ∧ ∀ p ∈ ds, ∀ es, p = .tuple es → es.length = 2 → ∀ e ∈ es, flatD e = true
def spLW : Sp := fun vs H Q _ => ∃ v d, vs = [v] ∧ DV H v d ∧ askW d ∧ ∀ H', Same H H' → Q (.bl (walkB d)) H'
theorem stepI {p q : Pt} : (wayS (q.1 - p.1) (q.2 - p.2)).isSome = decide (iab (p.1 - q.1) + iab (p.2 - q.2) = 1) := by
  unfold wayS iab
  split
  · rw [decide_eq_true]; rfl
    split <;> split <;> omega
  · split
    · rw [decide_eq_true]; rfl
      split <;> split <;> omega
    · split
      · rw [decide_eq_true]; rfl
        split <;> split <;> omega
      · split
        · rw [decide_eq_true]; rfl
          split <;> split <;> omega
        · rw [decide_eq_false]; rfl
          split <;> split <;> omega
def stD (a b : PyData) : PyData := .int (iab (xOf a - xOf b) + iab (yOf a - yOf b))
def oneN : PyData → Bool
  | .int i => !decide (i = 1)
  | _ => true
theorem steps_nb : ∀ {ds : List PyData}, (∀ z ∈ ds, ptB z = true) → decide ((((ds.zip (ds.drop 1)).map fun p => stD p.1 p.2).filter oneN) = []) = (nbs ds).all id
  | [], _ => rfl
  | [_], _ => rfl
  | a :: b :: r, h => by
    have ih := steps_nb (ds := b :: r) fun z hz => h z (List.mem_cons_of_mem _ hz)
    obtain ⟨i1, j1, rfl, _⟩ := pt_of (h a List.mem_cons_self)
    obtain ⟨i2, j2, rfl, _⟩ := pt_of (h b (List.mem_cons_of_mem _ List.mem_cons_self))
    show decide (((stD _ _ :: (((PyData.tuple [.int i2, .int j2] :: r).zip ((PyData.tuple [.int i2, .int j2] :: r).drop 1)).map fun p => stD p.1 p.2)).filter oneN) = []) = (nbB _ _ && (nbs (PyData.tuple [.int i2, .int j2] :: r)).all id)
    rw [← ih, List.filter_cons]
    have e : nbB (PyData.tuple [.int i1, .int j1]) (.tuple [.int i2, .int j2]) = decide (iab (i1 - i2) + iab (j1 - j2) = 1) := stepI (p := (i1, j1)) (q := (i2, j2))
    have e2 : oneN (stD (.tuple [.int i1, .int j1]) (.tuple [.int i2, .int j2])) = !decide (iab (i1 - i2) + iab (j1 - j2) = 1) := rfl
    rw [e, e2]
    cases decide (iab (i1 - i2) + iab (j1 - j2) = 1)
    · rfl
    · rw [Bool.true_and]
      rfl
section
variable {P : Program} {w : World} {K : PySem.W.Frag} {mg : Str → Option Value} {base : Heap}
theorem scLW : FnScope lwN ["_law_value"] (defScope (top 40)) := ⟨rfl, rfl, rfl, by decide +kernel, rfl, by decide +kernel, by decide +kernel⟩
theorem ok_lw {f : Addr} {fd : FuncData} (F : Fun K "_law_is_walk" "_law_is_walk" (top 40) f fd) (T : Ta mg) (TA : Tab mg) (TZ : Tz mg) : FnOk P w K mg base CX0 1 f fd ["_law_value"] spLW := by
  refine F.ok scLW (fun vs H Q E h => by obtain ⟨v, d, rfl, _⟩ := h; rfl) (fun cdv A outer s H vs Q E hr h => ?_)
  obtain ⟨v, d, rfl, dv, ask, q⟩ := h
  have hu64 : (A.deeper (envOfC "_law_is_walk" (defScope (top 40)) s.heap.objs.size f cdv)).units + 64 < cLine := by
    have := hr.un
    omega
  refine ⟨_, (pss_cons (ps_if (PW.pt (pw_or (pt_not (pt_val (pe_callB call_isi (by rfl) T.isi (by decide +kernel) (pa_cons (pv 0) (pa_cons (pe_bltn (v := .ty "tuple") (u := .type "tuple") (by rfl) T.tup (by decide +kernel) rfl) pa_nil))))) (pw_or1 (pt_cmpR op_lt (pe_callB call_len_seq (by rfl) T.len PySem.boot_len (pa_cons (pv 0) pa_nil)) pe_int (nomark _))))) (pss_one (ps_ret pe_bl)) pss_nil)
    (pss_cons (ps_for PassesOwn.never rfl (pi_tup (pv 0)) (pg_name (i := 1) scLW.nd rfl (by first | exact Or.inl rfl | exact Or.inr rfl)) (pss_cons (ps_if (PW.pt (pw_or (pt_not (pt_val (pe_callB call_isi (by rfl) T.isi (by decide +kernel) (pa_cons (pv 1) (pa_cons (pe_bltn (v := .ty "tuple") (u := .type "tuple") (by rfl) T.tup (by decide +kernel) rfl) pa_nil))))) (pw_or1 (pt_cmpR op_ne (pe_callB call_len_seq (by rfl) T.len PySem.boot_len (pa_cons (pv 1) pa_nil)) pe_int (nomark _))))) (pss_one (ps_ret pe_bl)) pss_nil)
    (pss_one (ps_if (pt_cmpR (op_neD hu64) (pe_lc (own := [("_law_one", 3)]) (g := gName 3) (tt := (tOr (tNot (tB (tCB (rIsi K) (tCons (tVar 3) (tCons (tC (.ty "int")) tNil))))) (tOr (tB (tCB (rIsi K) (tCons (tVar 3) (tCons (tC (.ty "bool")) tNil)))) (tOr (tTest (tOp (rI0 fun i j => V.bl (decide (i < j))) (tVar 3) (tC (.int 0)))) (tTest (tOp (rI0 fun i j => V.bl (decide (j < i))) (tVar 3) (tC (.int 30)))))))) (te := (tVar 3)) rfl scLW.nd (pi_tup (pv 1)) (blkOk_by (N := lwN) (sc := defScope (top 40)) (by decide +kernel)) (fun _ _ _ _ _ => (pg_name (i := 3) scLW.nd rfl (by first | exact Or.inl rfl | exact Or.inr rfl))) (fun _ _ _ _ _ => pts_one (PW.pt (pw_or (pt_not (pt_val (pe_callB call_isi (by rfl) T.isi (by decide +kernel) (pa_cons (pv 3) (pa_cons (pe_bltn (v := .ty "int") (u := .type "int") (by rfl) T.int (by decide +kernel) rfl) pa_nil))))) (pw_or (pt_val (pe_callB call_isi (by rfl) T.isi (by decide +kernel) (pa_cons (pv 3) (pa_cons (pe_bltn (v := .ty "bool") (u := .type "bool") (by rfl) T.bool (by decide +kernel) rfl) pa_nil)))) (pw_or (pt_cmpR op_lt (pv 3) pe_int (nomark _)) (pw_or1 (pt_cmpR op_gt (pv 3) pe_int (nomark _)))))))) (fun _ _ _ _ _ => (pv 3))) (pe_lst pa_nil) (by rfl)) (pss_one (ps_ret pe_bl)) pss_nil))))
    (pss_cons (ps_setLc (i := 2) (own := [("_law_a", 4), ("_law_b", 5)]) (g := gTup K 2 (gCons (gName 4) (gCons (gName 5) gNil))) (tt := tYes) (te := (tOp (rI0 fun i j => V.int (i + j)) (tCB rAbs (tCons (tOp (rI0 fun i j => V.int (i - j)) (tOp (rIxT K) (tVar 4) (tC (.int 0))) (tOp (rIxT K) (tVar 5) (tC (.int 0)))) tNil)) (tCB rAbs (tCons (tOp (rI0 fun i j => V.int (i - j)) (tOp (rIxT K) (tVar 4) (tC (.int 1))) (tOp (rIxT K) (tVar 5) (tC (.int 1)))) tNil)))) rfl scLW.nd rfl rfl (sw_true rfl rfl rfl (by decide +kernel)) (RZ.pi_zipA (by rfl) TZ.zip (pa_cons (pv 0) (pa_cons (pe_slice sl_tup (pv 0) (po_some pe_int) po_none) pa_nil))) (blkOk_by (N := lwN) (sc := defScope (top 40)) (by decide +kernel)) (fun _ _ _ _ _ => (pg_tup rfl (pgs_cons (pg_name (i := 4) scLW.nd rfl (by first | exact Or.inl rfl | exact Or.inr rfl)) (pgs_cons (pg_name (i := 5) scLW.nd rfl (by first | exact Or.inl rfl | exact Or.inr rfl)) pgs_nil)))) (fun _ _ _ _ _ => pts_nil) (fun _ _ _ _ _ => (pe_op op_add (pe_callB call_abs (by rfl) TA.abs (by decide +kernel) (pa_cons (pe_op op_sub (pe_ix (r := rIxT K) (by exact ix_tup) (pv 4) pe_int (fun _ _ => rfl)) (pe_ix (r := rIxT K) (by exact ix_tup) (pv 5) pe_int (fun _ _ => rfl))) pa_nil)) (pe_callB call_abs (by rfl) TA.abs (by decide +kernel) (pa_cons (pe_op op_sub (pe_ix (r := rIxT K) (by exact ix_tup) (pv 4) pe_int (fun _ _ => rfl)) (pe_ix (r := rIxT K) (by exact ix_tup) (pv 5) pe_int (fun _ _ => rfl))) pa_nil)))))
    (pss_one (ps_ret (pe_cmpR (op_eqD hu64) (pe_lc (own := [("_law_step", 6)]) (g := gName 6) (tt := (tTest (tOp rNe (tVar 6) (tC (.int 1))))) (te := (tVar 6)) rfl scLW.nd (pi_list (pv 2)) (blkOk_by (N := lwN) (sc := defScope (top 40)) (by decide +kernel)) (fun _ _ _ _ _ => (pg_name (i := 6) scLW.nd rfl (by first | exact Or.inl rfl | exact Or.inr rfl))) (fun _ _ _ _ _ => pts_one (pt_cmpR op_ne (pv 6) pe_int (nomark _))) (fun _ _ _ _ _ => (pv 6))) (pe_lst pa_nil) (by rfl))))))), ?_⟩
  have s0 : Same H H := same0 H
  refine seq_i (ifs_i ?_)
  cases e : tupish d with
  | false =>
    refine mkt_go (true || false) (mkt_or (mkt_not (b_ (mkt_tB (mak_isi (mak_var rfl dv) (kit_tuple d))) e)) fun h => absurd h (by decide)) fun H1 s1 => ifT rfl (ret_i ?_)
    have := q H1 s1
    have ew : walkB d = false := by cases d <;> first | rfl | cases e
    rwa [ew] at this
  | true =>
    obtain ⟨ds, rfl⟩ := tupish_of e
    obtain ⟨l1000, fl⟩ := ask ds rfl
    refine mkt_go (false || decide ((ds.length : Int) < 2)) (mkt_or (mkt_not (b_ (mkt_tB (mak_isi (mak_var rfl dv) (kit_tuple _))) e)) fun _ => mkt_test (mak_opB (g := fun i j => decide (i < j)) (mak_lenT (mak_var rfl dv)) mak_int)) fun H1 s1 => ?_
    rw [Bool.false_or]
    have ew : walkB (.tuple ds) = (decide (2 ≤ ds.length) && (ds.all ptB && (nbs ds).all id)) := rfl
    rw [ew] at q
    by_cases c : ds.length < 2
    · refine ifT (decide_eq_true (by omega)) (ret_i ?_)
      have := q H1 s1
      rwa [decide_eq_false (by omega), Bool.false_and] at this
    rw [decide_eq_true (show 2 ≤ ds.length by omega), Bool.true_and] at q
    refine ifF (decide_eq_false (by omega)) (next_i ?_)
    dsimp only
    obtain ⟨a, xs, rfl, ha, dx⟩ := dv_tup dv
    have ln := dx.length
    refine seq_i ⟨_, rfl, a, rfl, ⟨_, SqT.of (s1 _ _ ha)⟩, for_at (n := xs.length) (fun i σ H' => ∃ o1, σ = [some (.ref a), o1, none, none, none, none, none] ∧ Same H H' ∧ ∀ j z, j < i → ds[j]? = some z → ptB z = true) ⟨none, rfl, s1, fun j z hj => absurd hj (Nat.not_lt_zero _)⟩ ?_ ?_ ?_ ?_⟩
    · rintro i σ H' hi ⟨o1, rfl, s2, _⟩
      exact ⟨xs, xs[i], SqT.of (s2 _ _ ha), List.getElem?_eq_getElem hi⟩
    · rintro σ H' ⟨o1, rfl, s2, _⟩
      exact ⟨xs, SqT.of (s2 _ _ ha), Nat.le_refl _⟩
    · rintro i x σ H' H'' hi ⟨o1, rfl, s2, al⟩ y
      obtain ⟨rfl, hx⟩ := y
      obtain ⟨p, hp, dp⟩ := dx.at i x (hx _ (SqT.of (s2 _ _ ha)))
      have dp := dp.more s2
      have mp := List.mem_of_getElem? hp
      have nope : ∀ {H3 : Hp}, Same H H3 → ptB p = false → Q (.bl false) H3 := fun s3 h => by
        have := q _ s3
        rwa [show ds.all ptB = false from List.all_eq_false.mpr ⟨p, mp, by rw [h]; decide⟩, Bool.false_and] at this
      dsimp only [gName]
      refine seq_i (ifs_i ?_)
      cases e2 : tupish p with
      | false =>
        refine mkt_go (true || false) (mkt_or (mkt_not (b_ (mkt_tB (mak_isi (mak_var rfl dp) (kit_tuple p))) e2)) fun h => absurd h (by decide)) fun H3 s3 => ifT rfl (ret_i (nope (same_tr s2 s3) ?_))
        cases p <;> first | rfl | cases e2
      | true =>
        obtain ⟨es, rfl⟩ := tupish_of e2
        refine mkt_go (false || !decide ((es.length : Int) = 2)) (mkt_or (mkt_not (b_ (mkt_tB (mak_isi (mak_var rfl dp) (kit_tuple _))) e2)) fun _ => mkt_test (mak_neI (mak_lenT (mak_var rfl dp)) mak_int)) fun H3 s3 => ?_
        rw [Bool.false_or]
        by_cases c2 : es.length = 2
        · refine ifF (by rw [decide_eq_true (by omega)]; rfl) (next_i ?_)
          have fe := fl _ mp es rfl c2
          dsimp only
          refine ifs_i ?_
          have dp3 := dp.more s3
          refine mkt_go (!decide (((es.filter fun z => !cooB z).map fun z => z) = [])) (mkt_test (mak_neNil (mak_lcT (fun z => !cooB z) (fun z => z) (mak_var rfl dp3) (by omega) (fun z hz _ => flat_imm (fe z hz)) ?_) ?_ ?_)) fun H4 s4 => ?_
          · intro H5 x5 d5 s5 m5 dv5
            refine ⟨[some (.ref a), some x, none, some x5, none, none, none], rfl, fun Q q => q, ?_, fun _ => mak_var rfl dv5⟩
            have g3 : Mak [some (.ref a), some x, none, some x5, none, none, none] H5 (tVar 3) d5 := mak_var rfl dv5
            have fd := fe d5 m5
            refine b_ (b := !intish d5 || (boolish d5 || (coV d5 || coW d5))) (mkt_or (mkt_not (mkt_tB (mak_isi g3 (kit_int d5)))) fun h1 => mkt_or (mkt_tB (mak_isi g3 (kit_bool d5))) fun h2 => ?_) ?_
            · cases d5 with
              | int i5 => exact mkt_or (mkt_test (mak_opB (g := fun i j => decide (i < j)) g3 mak_int)) fun _ => mkt_test (mak_opB (g := fun i j => decide (j < i)) g3 mak_int)
              | bool b5 => cases h2
              | _ => cases h1
            · cases d5 with
              | int i5 =>
                show (false || (false || (decide (i5 < 0) || decide (30 < i5)))) = !(decide (0 ≤ i5) && decide (i5 ≤ 30))
                by_cases c3 : i5 < 0
                · rw [decide_eq_true c3, decide_eq_false (show ¬ 0 ≤ i5 by omega)]; rfl
                · rw [decide_eq_false c3, decide_eq_true (show 0 ≤ i5 by omega)]
                  by_cases c4 : 30 < i5
                  · rw [decide_eq_true c4, decide_eq_false (show ¬ i5 ≤ 30 by omega)]; rfl
                  · rw [decide_eq_false c4, decide_eq_true (show i5 ≤ 30 by omega)]; rfl
              | _ => rfl
          · exact imms_flat fun z hz => by
              obtain ⟨z', hz', rfl⟩ := List.mem_map.mp hz
              exact fe _ (List.mem_filter.mp hz').1
          · exact shaped_flat fun z hz => by
              obtain ⟨z', hz', rfl⟩ := List.mem_map.mp hz
              exact fe _ (List.mem_filter.mp hz').1
          · rw [List.map_id']
            obtain ⟨ea, eb, rfl⟩ : ∃ ea eb, es = [ea, eb] := by
              match es, c2 with
              | [ea, eb], _ => exact ⟨ea, eb, rfl⟩
            have ep : ptB (.tuple [ea, eb]) = (cooB ea && cooB eb) := rfl
            have s04 : Same H H4 := same_tr s2 (same_tr s3 s4)
            cases e5 : ptB (.tuple [ea, eb]) with
            | false =>
              refine ifT ?_ (ret_i (nope s04 e5))
              rw [ep] at e5
              rw [List.filter_cons, List.filter_cons, List.filter_nil]
              cases h1 : cooB ea <;> cases h2 : cooB eb <;> simp_all
            | true =>
              refine ifF ?_ (next_i ⟨_, rfl, s04, fun j z hj hz => ?_⟩)
              · rw [ep] at e5
                rw [List.filter_cons, List.filter_cons, List.filter_nil]
                cases h1 : cooB ea <;> cases h2 : cooB eb <;> simp_all
              · by_cases ej : j = i
                · subst ej
                  rw [hp] at hz
                  cases hz
                  exact e5
                · exact al j z (by omega) hz
        · refine ifT (by rw [decide_eq_false (by omega)]; rfl) (ret_i (nope (same_tr s2 s3) ?_))
          match es, c2 with
          | [], _ => rfl
          | [_], _ => rfl
          | [_, _], c2 => exact absurd rfl c2
          | _ :: _ :: _ :: _, _ => rfl
    rintro σ H2 ⟨o1, rfl, s2, al⟩
    have allp : ∀ z ∈ ds, ptB z = true := fun z hz => by
      obtain ⟨j, hj⟩ := List.getElem?_of_mem hz
      exact al j z (by rw [ln]; exact (List.getElem?_eq_some_iff.mp hj).1) hj
    rw [List.all_eq_true.mpr allp, Bool.true_and] at q
    dsimp only
    refine seq_i (asg_i ?_)
    refine mak_go (.list ((ds.zip (ds.drop 1)).map fun p => stD p.1 p.2)) (mak_lcZ stD (mak_var rfl (dv.more s2)) (mak_tail (mak_var rfl (dv.more s2)) (by omega)) (by omega) (fun a b => rfl) ?_) fun vl H3 s3 dl => ?_
    · intro H4 T4 x4 y4 a4 b4 s4 ma mb hT da db
      obtain ⟨i1, j1, rfl, _⟩ := pt_of (allp a4 ma)
      obtain ⟨i2, j2, rfl, _⟩ := pt_of (allp b4 mb)
      refine ⟨[some (.ref a), o1, none, none, some x4, some y4, none], rfl, fun Q q => ⟨T4, _, rfl, SqT.of hT, rfl, _, _, rfl, _, _, rfl, rfl, q⟩, ?_⟩
      have ga : Mak [some (.ref a), o1, none, none, some x4, some y4, none] H4 (tVar 4) (.tuple [.int i1, .int j1]) := mak_var rfl da
      have gb : Mak [some (.ref a), o1, none, none, some x4, some y4, none] H4 (tVar 5) (.tuple [.int i2, .int j2]) := mak_var rfl db
      exact mak_op (g := fun i j => i + j) (mak_abs (mak_op (g := fun i j => i - j) (mak_ix (k := 0) ga rfl) (mak_ix (k := 0) gb rfl))) (mak_abs (mak_op (g := fun i j => i - j) (mak_ix (k := 1) ga rfl) (mak_ix (k := 1) gb rfl)))
    dsimp only [gName]
    refine ret_i ?_
    refine mak_go (.bool (decide (((((ds.zip (ds.drop 1)).map fun p => stD p.1 p.2).filter oneN).map fun z => z) = []))) (mak_eqNil (mak_lc oneN (fun z => z) (mak_var rfl dl) ?_ (fun z hz => ?_) ?_) ?_ ?_) fun vb H4 s4 db => ?_
    · rw [List.length_map, List.length_zip]
      omega
    · obtain ⟨p, _, rfl⟩ := List.mem_map.mp hz
      rfl
    · intro H5 x5 d5 s5 m5 dv5
      obtain ⟨p, _, rfl⟩ := List.mem_map.mp m5
      refine ⟨[some (.ref a), o1, some vl, none, none, none, some x5], rfl, fun Q q => q, ?_, fun _ => mak_var rfl dv5⟩
      exact mkt_test (mak_neI (mak_var rfl dv5) mak_int)
    · exact imms_flat fun z hz => by
        obtain ⟨z', hz', rfl⟩ := List.mem_map.mp hz
        obtain ⟨p, _, rfl⟩ := List.mem_map.mp (List.mem_filter.mp hz').1
        rfl
    · exact shaped_flat fun z hz => by
        obtain ⟨z', hz', rfl⟩ := List.mem_map.mp hz
        obtain ⟨p, _, rfl⟩ := List.mem_map.mp (List.mem_filter.mp hz').1
        rfl
    · rw [List.map_id', steps_nb allp] at db
      cases db
      exact q H4 (same_tr s2 (same_tr s3 s4))

end
end Y1
set_option Elab.async false
set_option linter.all false
set_option maxRecDepth 100000
set_option maxHeartbeats 4000000
/-! xs.remove(y), the items data of any depth; y is there. -/
namespace Nv
open PySem PySem.Spec PyProof.Rows L2
section
variable {X : Cx}
def rRemD (K : PySem.W.Frag) : V → List V → Hp → VK → Prop := fun x vs H Q => ∃ (a : Addr) (xs : List V) (y : V) (d : PyData) (ds : List PyData) (j : Nat) (z : PyData), x = V.ref a ∧ vs = [y] ∧ H a = some (.lst xs) ∧ DpAll K H xs ds ∧ Dp K H y d ∧
  SeqAt.shaped (.list ds) = true ∧ SeqAt.shaped d = true ∧ ds[j]? = some z ∧ PyData.eqv z d = true ∧ (∀ (m : Nat) (z' : PyData), m < j → ds[m]? = some z' → PyData.eqv z' d = false) ∧ Q .non (upd H a (.lst (xs.eraseIdx j)))
theorem mt_removeD (hu : X.A.units + 65 < cLine) : MtR X "list.remove" (rRemD X.K) := by
  intro pins s σ H x vs v us Q I rx rxs h
  obtain ⟨a, xs, y, d, ds, j, z, rfl, rfl, hH, ha, hy, sl, sd, hz, hzj, hno, q⟩ := h
  cases rx
  cases rxs with
  | cons ry rt =>
    rename_i uy ut
    cases rt
    obtain ⟨bs, r1⟩ := Dp.reads I d y uy hy ry
    have hxs : PyData.canLayAll0 ds = true := SeqAt.canLay_of_shaped sl
    have hroom : X.A.units + 1 + min (PyData.depthAll ds) d.depth < cLine := room_in_shaped sd hu
    obtain ⟨hlen, its, n, rv, hl, ho⟩ := I.lstM hH
    obtain ⟨as, h4⟩ := Dp.readsAll I ds _ its ha rv
    have hn : its.length = ds.length := SeqAt.ReadsAll.length ds its as h4
    have hmap : its.map (SeqAt.readOf s.heap) = ds := SeqAt.readsAll_map ds its as hxs h4
    obtain ⟨hjd, _⟩ := List.getElem?_eq_some_iff.mp hz
    have hjl : j < its.length := by omega
    have hj : j < its.toArray.size := by simpa using hjl
    have at_ : ∀ (m : Nat) (hm : m < its.toArray.size) (z' : PyData), ds[m]? = some z' → SeqAt.readOf s.heap its.toArray[m] = z' := by
      intro m hm z' hz'
      have hml : m < its.length := by simpa using hm
      rw [← hmap, List.getElem?_map, List.getElem?_eq_getElem hml] at hz'
      have e1 : SeqAt.readOf s.heap its[m] = z' := Option.some.inj (show some (SeqAt.readOf s.heap its[m]) = some z' from hz')
      simpa using e1
    refine call_meets PySem.F.slot_list_remove ⟨_, ho, rfl⟩ PySem.F.entry_list_remove (PySem.F.args_list_remove_2 _ _)
      (SeqAt.list_removeAt a its.toArray n none #[] uy (fun u => PyData.eqv (SeqAt.readOf s.heap u) d) j hj ?_ ?_ (by rw [List.size_toArray]; omega)) ⟨ho, SeqAt.items_eqAt (vs := its.toArray) (show ReadsAll s.heap its.toArray.toList ds as from h4) r1 hxs (SeqAt.canLay_of_shaped sd) hroom, ?_⟩
    · show PyData.eqv (SeqAt.readOf s.heap its.toArray[j]) d = true
      rw [at_ j hj z hz]
      exact hzj
    · intro m hm hmj
      have hmd : m < ds.length := by omega
      have hz' : ds[m]? = some ds[m] := List.getElem?_eq_getElem hmd
      show PyData.eqv (SeqAt.readOf s.heap its.toArray[m]) d = false
      rw [at_ m hm _ hz']
      exact hno m _ hmj hz'
    · refine ⟨.non, _, I.lset (its' := its.eraseIdx j) hH ho ?_ (rv.eraseIdx j) ?_, rfl, q⟩
      · show its.toArray.eraseIdxIfInBounds j = (its.eraseIdx j).toArray
        rw [List.eraseIdxIfInBounds_toArray]
      · have := List.length_eraseIdx_le xs j
        omega
end
end Nv
set_option Elab.async false
set_option linter.all false
set_option maxRecDepth 100000
set_option maxHeartbeats 4000000
/-! Lists that are not the interpreter's own table; repr of data with empty dicts within; xs != []. -/
namespace Nv
open PySem PySem.Spec PyProof.Rows L2
theorem sys_ltN {X : Cx} {pins : List (Addr × Obj)} {σ : L2.St} {H : Hp} {s : Shared} (I : L2.Inv X pins σ H s) : sysModules < s.heap.objs.size := by
  obtain ⟨o, es, ep, e, _⟩ := I.ok.mod.glob
  obtain ⟨e1, e2⟩ := I.ok.bs _ _ e
  obtain ⟨o', e3⟩ := I.base.there _ _ e1 (I.ok.noex _ _ e)
  exact Nat.lt_trans (show sysModules < mainGlobals by decide) (Heap.lt_size e3)
theorem ne_sys {X : Cx} {pins : List (Addr × Obj)} {σ : L2.St} {H : Hp} {s : Shared} (I : L2.Inv X pins σ H s) : s.heap.objs.size ≠ sysModules := fun e => by
  have := sys_ltN I
  rw [← e] at this
  exact Nat.lt_irrefl _ this
/-- without p, and without a list at the interpreter's own table -/
def hid (p : Addr) (H : Hp) : Hp := fun a => if a = p then none else match H a with
  | some (.lst xs) => if a = sysModules then none else some (.lst xs)
  | o => o
theorem hid_at {p a : Addr} {H : Hp} {o : HO} (h : hid p H a = some o) : H a = some o ∧ a ≠ p ∧ ((∀ xs, o ≠ .lst xs) ∨ a ≠ sysModules) := by
  unfold hid at h
  split at h
  · cases h
  · rename_i n
    split at h
    · rename_i xs e
      split at h
      · cases h
      · rename_i m
        cases h
        exact ⟨e, n, .inr m⟩
    · rename_i f
      exact ⟨h, n, .inl fun xs e => f xs (by rw [h, e])⟩
theorem hid_of {p a : Addr} {H : Hp} {o : HO} (h : H a = some o) (n : a ≠ p) (m : (∀ xs, o ≠ .lst xs) ∨ a ≠ sysModules) : hid p H a = some o := by
  unfold hid
  rw [if_neg n, h]
  rcases m with m | m
  · split
    · rename_i xs e
      cases e
      exact absurd rfl (m xs)
    · rfl
  · split
    · rename_i xs e
      cases e
      rw [if_neg m]
    · rfl
theorem hid_le {p : Addr} {H : Hp} : Same (hid p H) H := fun a o e => (hid_at e).1
theorem hid_same {p : Addr} {H H' : Hp} (s : Same H H') : Same (hid p H) (hid p H') := fun a o e => by
  obtain ⟨h, n, m⟩ := hid_at e
  exact hid_of (s _ _ h) n m
theorem hid_but {p : Addr} {H H' : Hp} (s : ∀ c o, c ≠ p → H c = some o → H' c = some o) : Same (hid p H) (hid p H') := fun a o e => by
  obtain ⟨h, n, m⟩ := hid_at e
  exact hid_of (s _ _ n h) n m
mutual
theorem reads_hid {P : Program} {w : World} {H H0 : Hp} {h : Heap} (ok : HOk P w H h) (le : ∀ a o, H0 a = some o → H a = some o ∧ ((∀ xs, o ≠ .lst xs) ∨ a ≠ sysModules)) : ∀ {v : V} {d : PyData} {u : Value}, DV H0 v d → RelV v u → ∃ as, Reads h u d as ∧ sysModules ∉ as
  | _, _, u, .non, r => ⟨[], by rw [show u = Value.none from r]; exact .none, by simp⟩
  | _, _, u, .bl b, r => ⟨[], by rw [show u = Value.bool b from r]; exact .bool b, by simp⟩
  | _, _, u, .int i, ⟨t, e⟩ => ⟨[], by rw [e]; exact .int i t, by simp⟩
  | _, _, u, .str x, ⟨t, e⟩ => ⟨[], by rw [e]; exact .str x t, by simp⟩
  | _, _, u, .lst (a := a) (xs := xs) h1 q, r => by
    obtain ⟨h2, na⟩ := le _ _ h1
    have na := na.resolve_left fun f => f xs rfl
    obtain ⟨_, its, n, rv, e⟩ := ok a _ h2
    obtain ⟨as, ra, ns⟩ := readss_hid ok le q rv
    refine ⟨a :: as, ?_, fun z => (List.mem_cons.mp z).elim (fun z => na z.symm) ns⟩
    rw [show u = Value.ref a from r]
    exact .list e rfl rfl (by simpa using ra)
  | _, _, u, .tup (a := a) (xs := xs) h1 q, r => by
    obtain ⟨_, its, rv, o, e, hc, m, hd⟩ := ok a _ (le _ _ h1).1
    obtain ⟨as, ra, na⟩ := readss_hid ok le q rv
    refine ⟨as, ?_, na⟩
    rw [show u = Value.ref a from r]
    exact .tuple e hc hd (by simpa using ra)
  | _, _, u, .emp (a := a) h1, r => ⟨_, emp_reads ok (le _ _ h1).1 r⟩
theorem readss_hid {P : Program} {w : World} {H H0 : Hp} {h : Heap} (ok : HOk P w H h) (le : ∀ a o, H0 a = some o → H a = some o ∧ ((∀ xs, o ≠ .lst xs) ∨ a ≠ sysModules)) : ∀ {vs : List V} {ds : List PyData} {us : List Value}, DVs H0 vs ds → Vals vs us → ∃ as, ReadsAll h us ds as ∧ sysModules ∉ as
  | _, _, _, .nil, .nil => ⟨[], .nil, by simp⟩
  | _, _, _, .cons h1 q, .cons r rs => by
    obtain ⟨as, ra, na⟩ := reads_hid ok le h1 r
    obtain ⟨bs, rb, nb⟩ := readss_hid ok le q rs
    exact ⟨as ++ bs, .cons ra rb, fun z => (List.mem_append.mp z).elim na nb⟩
end
/-- what may be shown -/
structure NiceL (d : PyData) : Prop where
  shows : d.showable = true
  deep : d.depth ≤ 60
  long : d.shown.length ≤ sizeLine
section
variable {X : Cx}
def rReprH : List V → Hp → VK → Prop := fun xs H Q => ∃ p v d, xs = [v] ∧ DV (hid p H) v d ∧ NiceL d ∧ Q (.str d.shown) H
theorem call_reprH (gd : X.A.guards = some []) (hu : X.A.units + 100 < cLine) : CallR X (.builtin "repr") rReprH := by
  rintro pins s σ H xs us Q I r ⟨p, v, d, rfl, dv, nz, q⟩
  cases r with
  | cons r0 rr =>
    cases rr
    rename_i u
    have fin : ∀ (h' : Heap) (t : Tok) (tk : Nat), (∀ b o, s.heap.get? b = some o → h'.get? b = some o) → EP X pins σ Q (.str d.shown t) { s with heap := h', toks := tk } :=
      fun h' t tk k => ⟨.str d.shown, H, I.kept (t' := tk) k, ⟨t, rfl⟩, q⟩
    have leaf : EP X pins σ Q (.str d.shown s.toks) { s with heap := s.heap, toks := s.toks + 1 } := fin s.heap s.toks (s.toks + 1) fun _ _ e => e
    obtain ⟨as, rd, nas⟩ := reads_hid I.hok (fun a o e => ⟨(hid_at e).1, (hid_at e).2.2⟩) dv r0
    have viaRef : ∀ (a : Addr), u = .ref a → wpAny (model X.prog X.w) X.A (call (.builtin "repr") [u]) (EP X pins σ Q) X.xe s := by
      rintro a rfl
      exact repr_of_reads' rd nz.shows (fun _ => nas) gd (by have := nz.deep; omega) (fun _ _ e => e) (fun h' t tk k => fin h' t tk k) nz.long
    cases dv with
    | non =>
      cases (show u = Value.none from r0)
      exact P.repr_of_none (by simpa only [PyData.shown] using leaf)
    | bl b =>
      cases (show u = Value.bool b from r0)
      exact P.repr_of_bool (by simpa only [PyData.shown] using leaf)
    | int i =>
      obtain ⟨t, rfl⟩ := r0
      exact P.repr_of_int (by simpa [PyData.showable] using nz.shows) (by simpa only [PyData.shown] using leaf)
    | str x =>
      obtain ⟨t, rfl⟩ := r0
      exact P.repr_of_str (by simpa only [PyData.shown] using leaf) (by simpa only [PyData.shown] using nz.long)
    | lst h1 q1 => exact viaRef _ r0
    | tup h1 q1 => exact viaRef _ r0
    | emp h1 => exact viaRef _ r0
/-! new lists -/
def tLstS (t : TA) : TE := fun σ H Q => t σ H fun xs H1 => xs.length ≤ sizeLine ∧ ∀ p, H1 p = none → p ≠ sysModules → Q (.ref p) (upd H1 p (.lst xs))
theorem pe_lstS {es : List Expr} {t : TA} {pos : Pos} (h : PA X es t) : PE X (.List es pos) (tLstS t) := by
  refine ⟨fun pins s σ H Q I hq => ?_⟩
  refine wpAny_List_spliced (thn (h.run pos pins s σ H _ I hq) fun us s1 ⟨xs, H1, I1, r, z, q⟩ => ⟨by rw [← r.length]; exact z, ?_⟩)
  have hf : H1 s1.heap.objs.size = none := I1.hok.fresh (Nat.le_refl _)
  refine ⟨.ref s1.heap.objs.size, upd H1 s1.heap.objs.size (.lst xs), I1.laid (t' := s1.toks) (fun b u e => Heap.get?_push_of_some _ e) (Nat.le_refl _) ?_, rfl, q _ hf (ne_sys I1)⟩
  exact ⟨z, us, 0, r, Heap.get?_push_size _ rfl⟩
def rListS (K : PySem.W.Frag) : List V → Hp → VK → Prop := fun xs H Q => ∃ p ys, xs = [.ref p] ∧ (SqL K H p ys ∨ SqT K H p ys) ∧ ∀ l, H l = none → l ≠ sysModules → Q (.ref l) (upd H l (.lst ys))
theorem call_list_ofS : CallR X (.type "list") (rListS X.K) := by
  intro pins s σ H xs us Q I r h
  obtain ⟨p, ys, rfl, hq, q⟩ := h
  obtain ⟨u, rfl, rx⟩ := vals1 r
  cases rx
  have fin : ∀ (its : List Value), Vals ys its → ys.length ≤ sizeLine → ∀ (h' : Heap) (c' : Nat), (∀ b o', s.heap.get? b = some o' → h'.get? b = some o') →
      h'.get? s.heap.objs.size = some { cls := .type "list", dict := none, data := .seq its.toArray c', slots := #[] } → EP X pins σ Q (.ref s.heap.objs.size) { s with heap := h' } := fun its r' hz h' c' kp e =>
    ⟨.ref s.heap.objs.size, _, I.laid (t' := s.toks) kp (Nat.le_refl _) (show ObjOk X.prog X.w _ h' _ (.lst ys) from ⟨hz, its, c', r', e⟩), rfl, q _ (I.hok.fresh (Nat.le_refl _)) (ne_sys I)⟩
  rcases hq with hq | hq
  · obtain ⟨its, r', pl, hz⟩ := I.list hq
    have hlen := r'.length
    obtain ⟨o, ho, hc, n, hd⟩ := pl.isList
    exact call_list_seq p (.inl rfl) ho hc hd (fun h' c' kp e => fin its r' hz h' c' kp e) (by simp only [List.size_toArray] <;> omega)
  · obtain ⟨its, r', pl, hz⟩ := I.tuple hq
    have hlen := r'.length
    obtain ⟨o, ho, hc, n, hd⟩ := pl
    exact call_list_seq p (.inr rfl) ho hc hd (fun h' c' kp e => fin its r' hz h' c' kp e) (by simp only [List.size_toArray] <;> omega)
def rCatSN : R2 := fun x y H Q => ∃ l b xs zs, x = .ref l ∧ y = .ref b ∧ H l = some (.lst xs) ∧ H b = some (.lst zs) ∧ xs.length + zs.length ≤ sizeLine ∧ ∀ p, H p = none → p ≠ sysModules → Q (.ref p) (upd H p (.lst (xs ++ zs)))
theorem op_catSN : OpR X (binaryOp .Add) rCatSN := by
  rintro pins s σ H x y v u Q I rx ry ⟨l, b, xs, zs, rfl, rfl, h1, h2, few, q⟩
  cases (show v = Value.ref l from rx)
  cases (show u = Value.ref b from ry)
  obtain ⟨n1, as, k1, r1, l1, e1⟩ := I.lstM h1
  obtain ⟨n2, bs, k2, r2, l2, e2⟩ := I.lstM h2
  have sum : as.toArray ++ bs.toArray = (as ++ bs).toArray := by simp
  refine PySem.P.add_list e1 e2 ?_ (by simp only [List.size_toArray]; omega)
  rw [sum]
  exact ⟨.ref s.heap.objs.size, _, I.lnew (t' := s.toks) (r1.append r2) (by simp only [List.length_append]; omega), rfl, q _ I.fresh (ne_sys I)⟩
/-- xs != [], whatever the items are -/
def rNeNil (K : PySem.W.Frag) : R2 := fun x y H Q => ∃ a b xs, x = .ref a ∧ y = .ref b ∧ SqL K H a xs ∧ SqL K H b [] ∧ Q (.bl (!xs.isEmpty)) H
theorem op_neNil (hu : X.A.units < cLine) : OpR X (compareOp .NotEq) (rNeNil X.K) := by
  rintro pins s σ H x y v u Q I rx ry ⟨a, b, xs, rfl, rfl, h1, h2, q⟩
  cases (show v = Value.ref a from rx)
  cases (show u = Value.ref b from ry)
  obtain ⟨its, rv, p1, hz⟩ := I.list h1
  obtain ⟨its2, rv2, p2, hz2⟩ := I.list h2
  cases rv2
  cases rv with
  | nil =>
    have := PySem.SeqAt.RcNeAt.lists (A := X.A) (e := fun _ => true) p1.isList p2.isList rfl hu (fun j h _ => absurd h (by simp)) X.prog X.w X.xe (EP X pins σ Q)
    exact this ⟨.bl false, H, I, rfl, q⟩
  | cons r rr =>
    have := PySem.SeqAt.RcNeAt.lists_lengths (A := X.A) p1.isList p2.isList (by simp) hu X.prog X.w X.xe (EP X pins σ Q)
    exact this ⟨.bl true, H, I, rfl, q⟩
end
end Nv
set_option Elab.async false
set_option linter.all false
set_option maxRecDepth 100000
set_option maxHeartbeats 16000000
/-! _law_divided. -/
namespace Y1
open PySem PySem.Spec PyProof.Rows L2 Nv
abbrev dvN : List Str := ["_law_box_here", "_law_edges_here", "_law_left", "_law_found", "_law_edge", "_law_walk", "_law_going", "_law_more", "_law_one"]
/-- a walk of points -/
def wP (ps : List Pt) : PyData := .tuple (ps.map ptP)
def wE (ps : List Pt) : List Eg := eds (ps.map ptP)
theorem pd_ptP (p : Pt) : pd (ptP p) = p := rfl
theorem eds_snoc (a b : PyData) : ∀ l : List PyData, eds (l ++ [a, b]) = eds (l ++ [a]) ++ [edOf (pd a) (pd b)]
  | [] => rfl
  | [x] => rfl
  | x :: y :: r => by
    show edOf (pd x) (pd y) :: eds ((y :: r) ++ [a, b]) = edOf (pd x) (pd y) :: eds ((y :: r) ++ [a]) ++ _
    rw [eds_snoc a b (y :: r)]
    rfl
theorem nbs_snoc (a b : PyData) : ∀ l : List PyData, nbs (l ++ [a, b]) = nbs (l ++ [a]) ++ [nbB a b]
  | [] => rfl
  | [x] => rfl
  | x :: y :: r => by
    show nbB x y :: nbs ((y :: r) ++ [a, b]) = nbB x y :: nbs ((y :: r) ++ [a]) ++ _
    rw [nbs_snoc a b (y :: r)]
    rfl
theorem wE_snoc (u : List Pt) (p q : Pt) : wE (u ++ [p, q]) = wE (u ++ [p]) ++ [edOf p q] := by
  unfold wE
  rw [List.map_append, List.map_append]
  exact eds_snoc (ptP p) (ptP q) (u.map ptP)
theorem walk_snoc {u : List Pt} {p q : Pt} (h : walkB (wP (u ++ [p])) = true) (onq : onP q = true) (n : (wayS (q.1 - p.1) (q.2 - p.2)).isSome = true) : walkB (wP (u ++ [p, q])) = true := by
  have h : (decide (2 ≤ ((u ++ [p]).map ptP).length) && (((u ++ [p]).map ptP).all ptB && (nbs ((u ++ [p]).map ptP)).all id)) = true := h
  show (decide (2 ≤ ((u ++ [p, q]).map ptP).length) && (((u ++ [p, q]).map ptP).all ptB && (nbs ((u ++ [p, q]).map ptP)).all id)) = true
  simp only [Bool.and_eq_true, decide_eq_true_eq, List.all_eq_true] at h ⊢
  obtain ⟨h1, h2, h3⟩ := h
  refine ⟨?_, fun z hz => ?_, fun b hb => ?_⟩
  · simp only [List.length_map, List.length_append, List.length_cons, List.length_nil] at h1 ⊢
    omega
  · rw [show u ++ [p, q] = (u ++ [p]) ++ [q] by simp, List.map_append] at hz
    rcases List.mem_append.mp hz with m | m
    · exact h2 z m
    · rw [List.mem_singleton.mp m]
      exact ptB_of onq
  · rw [List.map_append, show ([p, q] : List Pt).map ptP = [ptP p, ptP q] from rfl, nbs_snoc] at hb
    rcases List.mem_append.mp hb with m | m
    · refine h3 b ?_
      rw [List.map_append]
      exact m
    · rw [List.mem_singleton.mp m]
      exact n
/-- an edge and its two points -/
theorem edge_two {a b : Pt} (h : edB (a, b) = true) : edOf a b = (a, b) ∧ edOf b a = (a, b) ∧ onP a = true ∧ onP b = true ∧ (wayS (b.1 - a.1) (b.2 - a.2)).isSome = true ∧ (wayS (a.1 - b.1) (a.2 - b.2)).isSome = true := by
  obtain ⟨⟨a1, a2, a3, a4⟩, ⟨b1, b2, b3, b4⟩, c⟩ := edB_range h
  obtain ⟨x, y⟩ := a
  obtain ⟨u, v⟩ := b
  dsimp only at *
  refine ⟨if_neg ?_, if_pos ?_, ?_, ?_, ?_, ?_⟩
  · dsimp only; omega
  · dsimp only; omega
  · simp only [onP, Bool.and_eq_true, decide_eq_true_eq]; omega
  · simp only [onP, Bool.and_eq_true, decide_eq_true_eq]; omega
  · unfold wayS
    rcases c with ⟨rfl, rfl⟩ | ⟨rfl, rfl⟩
    · rw [if_neg (by omega), if_pos (by omega)]; rfl
    · rw [if_pos (by omega)]; rfl
  · unfold wayS
    rcases c with ⟨rfl, rfl⟩ | ⟨rfl, rfl⟩
    · rw [if_neg (by omega), if_neg (by omega), if_neg (by omega), if_pos (by omega)]; rfl
    · rw [if_neg (by omega), if_neg (by omega), if_pos (by omega)]; rfl
theorem walk_two {a b : Pt} (ha : onP a = true) (hb : onP b = true) (n : (wayS (b.1 - a.1) (b.2 - a.2)).isSome = true) : walkB (wP [a, b]) = true := by
  show (decide (2 ≤ 2) && (([ptP a, ptP b]).all ptB && (nbs [ptP a, ptP b]).all id)) = true
  have n : nbB (ptP a) (ptP b) = true := n
  simp only [List.all_cons, List.all_nil, nbs, ptB_of ha, ptB_of hb, n, id]
  rfl
/-- a list that was made since H0, of data that don't change -/
structure Own (H0 : Hp) (p : Addr) (H : Hp) (X : Addr) (xs : List V) (ds : List PyData) : Prop where
  at_ : H X = some (.lst xs)
  dv : DVs H xs ds
  im : imms ds = true
  nw : H0 X = none
  np : X ≠ p
theorem Own.take {H0 H H' : Hp} {p X : Addr} {m : Int} {xs : List V} {ds : List PyData} (o : Own H0 p H X xs ds) (bx : BoxAt H p m) (b : But p H H') : Own H0 p H' X xs ds :=
  ⟨b _ _ o.np o.at_, dvs_tk (but_tk b (box_notup bx)) o.dv o.im, o.im, o.nw, o.np⟩
theorem Own.same {H0 H H' : Hp} {p X : Addr} {xs : List V} {ds : List PyData} (o : Own H0 p H X xs ds) (s : Same H H') : Own H0 p H' X xs ds :=
  ⟨s _ _ o.at_, o.dv.more s, o.im, o.nw, o.np⟩
theorem Own.other {H0 H : Hp} {p X Y : Addr} {xs ys zs : List V} {ds : List PyData} (o : Own H0 p H X xs ds) (hY : H Y = some (.lst ys)) (ne : X ≠ Y) : Own H0 p (upd H Y (.lst zs)) X xs ds :=
  ⟨by rw [upd_ne ne]; exact o.at_, dvs_tk (but_tk but_upd fun ws e => by rw [hY] at e; cases e) o.dv o.im, o.im, o.nw, o.np⟩
theorem Own.set {H0 H : Hp} {p X : Addr} {xs zs : List V} {ds es : List PyData} (o : Own H0 p H X xs ds) (d : DVs H zs es) (im : imms es = true) : Own H0 p (upd H X (.lst zs)) X zs es :=
  ⟨upd_same, dvs_tk (but_tk but_upd fun ws e => by rw [o.at_] at e; cases e) d im, im, o.nw, o.np⟩
theorem Own.tk {H0 H : Hp} {p X : Addr} {xs zs : List V} {ds : List PyData} (o : Own H0 p H X xs ds) : Tk H (upd H X (.lst zs)) := but_tk but_upd fun ws e => by rw [o.at_] at e; cases e
theorem but_set {H0 H : Hp} {p X : Addr} {o : HO} (b : But p H0 H) (n : H0 X = none) : But p H0 (upd H X o) := fun c u nc e => by
  rw [upd_ne fun z => by rw [z, n] at e; cases e]
  exact b c u nc e
theorem but_more {p : Addr} {a b c : Hp} (h : But p a b) (k : Same b c) : But p a c := fun x o n e => k x o (h x o n e)
theorem same_but {p : Addr} {a b : Hp} (k : Same a b) : But p a b := fun x o _ e => k x o e
theorem new_but {p : Addr} {a b : Hp} {X : Addr} (h : But p a b) (n : b X = none) (np : X ≠ p) : a X = none := by
  cases e : a X with
  | none => rfl
  | some o =>
    rw [h _ _ np e] at n
    cases n
theorem dvs_erase' {H : Hp} : ∀ {vs : List V} {ds : List PyData} (i : Nat), DVs H vs ds → DVs H (vs.eraseIdx i) (ds.eraseIdx i)
  | _, _, _, .nil => .nil
  | _, _, 0, .cons _ t => t
  | _, _, i + 1, .cons h t => .cons h (dvs_erase' i t)
theorem map_erase {α β : Type} (f : α → β) : ∀ (l : List α) (i : Nat), (l.map f).eraseIdx i = (l.eraseIdx i).map f
  | [], _ => rfl
  | _ :: _, 0 => rfl
  | x :: r, i + 1 => by
    show f x :: (r.map f).eraseIdx i = f x :: (r.eraseIdx i).map f
    rw [map_erase f r i]
theorem perm_erase {α : Type} : ∀ {l : List α} {i : Nat} {x : α}, l[i]? = some x → (x :: l.eraseIdx i).Perm l
  | [], i, x, h => by simp at h
  | y :: r, 0, x, h => by
    simp at h
    subst h
    exact List.Perm.refl _
  | y :: r, i + 1, x, h => by
    have h : r[i]? = some x := by simpa using h
    exact (List.Perm.swap y x _).trans ((perm_erase h).cons y)
/-- a draw from the box -/
theorem tk_i {σ : L2.St} {H : Hp} {Q : VK} {i : Nat} {p : Addr} {m many : Int} {tm : TE} {E : XK} (h : σ[i]? = some (some (.ref p))) (bx : BoxAt H p m) (hm : m ≤ 1000000) (tmk : Mak σ H tm (.int many)) (h0 : 0 < many) (h1 : many ≤ 100000)
    (q : ∀ r H', 0 ≤ r → r < many → BoxAt H' p (m + 1) → But p H H' → Q (.int r) H') : tCall spTake [] E (tCons (tVar i) (tCons tm tNil)) σ H Q :=
  ⟨_, h, tmk H _ (same0 H) fun v H1 s1 dv => by
    cases dv
    exact ⟨p, m, many, rfl, bx.more s1, hm, h0, h1, fun r H' r0 r1 bx2 b2 => q r H' r0 r1 bx2 fun x o n e => b2 x o n (s1 x o e)⟩⟩
theorem mak_neNilE {K : PySem.W.Frag} {σ : L2.St} {H0 : Hp} {t : TE} {es : List Eg} (h : Mak σ H0 t (.list (es.map eP))) : Mak σ H0 (tOp (rNeD K) t (tLst tNil)) (.bool (!decide (es = []))) := by
  have := mak_neNil (K := K) h (imms_es _) (shaped_es _)
  rwa [show decide (es.map eP = []) = decide (es = []) from decide_eq_decide.mpr List.map_eq_nil_iff] at this
theorem c_i {v : V} {σ : L2.St} {H : Hp} {Q : VK} (h : Q v H) : tC v σ H Q := h
theorem dvs_last {H : Hp} {xs : List V} {ds : List PyData} {d : PyData} (h : DVs H xs (ds ++ [d])) : ∃ ys v, xs = ys ++ [v] ∧ DV H v d := by
  have ln := h.length
  rw [List.length_append, List.length_cons, List.length_nil] at ln
  have hx : xs[ds.length]? = some (xs[ds.length]'(by omega)) := List.getElem?_eq_getElem _
  obtain ⟨d', hd, dv⟩ := h.at _ _ hx
  rw [List.getElem?_append_right (Nat.le_refl _), Nat.sub_self] at hd
  cases hd
  refine ⟨xs.take ds.length, _, ?_, dv⟩
  rw [← List.take_succ_eq_append_getElem (by omega), List.take_of_length_le (by omega)]
theorem mak_last {K : PySem.W.Frag} {σ : L2.St} {H0 : Hp} {t : TE} {ds : List PyData} {d : PyData} (h : Mak σ H0 t (.list (ds ++ [d]))) : Mak σ H0 (tOp (rIxL K) t (tUn (rU fun i => V.int (-i)) (tC (.int 1)))) d := fun H Q s q =>
  h H _ s fun v H1 s1 dv => by
    obtain ⟨a, xs, rfl, ha, dx⟩ := dv_lst dv
    obtain ⟨ys, v, rfl, dl⟩ := dvs_last dx
    exact ⟨1, rfl, a, _, -1, v, rfl, rfl, SqL.of ha, atI_last _ _, q v H1 s1 dl⟩
theorem mak_inP {K : PySem.W.Frag} {σ : L2.St} {H0 : Hp} {t u : TE} {z a b : Pt} (h : Mak σ H0 t (ptP z)) (k : Mak σ H0 u (eP (a, b))) : Mak σ H0 (tOp (rInT K) t u) (.bool (decide (z = a) || decide (z = b))) := fun H Q s q =>
  h H _ s fun v H1 s1 dv => k H1 _ (same_tr s s1) fun w H2 s2 du => by
    refine ⟨ptP z, [ptP a, ptP b], dp_of (dv.more s2) (ptP_imm _), dp_of du (eP_imm (a, b)), rfl, rfl, ?_⟩
    have e : ([ptP a, ptP b]).any (fun y => PyData.eqv y (ptP z)) = (decide (z = a) || decide (z = b)) := by
      simp only [List.any_cons, List.any_nil, Bool.or_false, eqv_ptP]
      rw [decide_eq_decide.mpr (eq_comm (a := a) (b := z)), decide_eq_decide.mpr (eq_comm (a := b) (b := z))]
    rw [e]
    exact q _ H2 (same_tr s1 s2) (.bl _)
theorem mak_eqP {K : PySem.W.Frag} {σ : L2.St} {H0 : Hp} {t u : TE} {y z : Pt} (h : Mak σ H0 t (ptP y)) (k : Mak σ H0 u (ptP z)) : Mak σ H0 (tOp (rEqD K) t u) (.bool (decide (y = z))) := fun H Q s q =>
  h H _ s fun v H1 s1 dv => k H1 _ (same_tr s s1) fun w H2 s2 du => by
    refine ⟨ptP y, ptP z, dp_of (dv.more s2) (ptP_imm _), dp_of du (ptP_imm _), rfl, rfl, ?_⟩
    rw [eqv_ptP]
    exact q _ H2 (same_tr s1 s2) (.bl _)
theorem mak_intB {σ : L2.St} {H0 : Hp} {t : TE} {b : Bool} (h : Mak σ H0 t (.bool b)) : Mak σ H0 (tCB (fun xs H Q => (∃ i, xs = [.int i] ∧ Q (.int i) H) ∨ ∃ k, xs = [.bl k] ∧ Q (.int (if k then 1 else 0)) H) (tCons t tNil)) (.int (if b then 1 else 0)) := fun H Q s q =>
  h H _ s fun v H1 s1 dv => by
    cases dv
    exact .inr ⟨b, rfl, q _ H1 s1 (.int _)⟩
theorem mak_ixN {K : PySem.W.Frag} {σ : L2.St} {H0 : Hp} {t ti : TE} {ds : List PyData} {k : Nat} {d : PyData} (h : Mak σ H0 t (.tuple ds)) (g : Mak σ H0 ti (.int (k : Int))) (hk : ds[k]? = some d) : Mak σ H0 (tOp (rIxT K) t ti) d := fun H Q s q =>
  h H _ s fun v H1 s1 dv => g H1 _ (same_tr s s1) fun u H2 s2 du => by
    obtain ⟨a, xs, rfl, ha, dx⟩ := dv_tup dv
    cases du
    have dx2 := dx.more s2
    have hl : k < xs.length := by
      rw [dx.length]
      exact (List.getElem?_eq_some_iff.mp hk).1
    obtain ⟨d', hd', dk⟩ := dx2.at k xs[k] (List.getElem?_eq_getElem hl)
    rw [hk] at hd'
    cases hd'
    exact ⟨a, xs, (k : Int), xs[k], rfl, rfl, SqT.of (s2 _ _ ha), atI_nat (List.getElem?_eq_getElem hl), q _ H2 (same_tr s1 s2) dk⟩
theorem first_in {α : Type} [DecidableEq α] : ∀ {l : List α} {x : α}, x ∈ l → ∃ j : Nat, l[j]? = some x ∧ ∀ m : Nat, m < j → ∀ y, l[m]? = some y → y ≠ x
  | [], _, h => nomatch h
  | y :: r, x, h => by
    by_cases c : y = x
    · exact ⟨0, by rw [c]; rfl, fun m hm => absurd hm (Nat.not_lt_zero _)⟩
    · obtain ⟨j, hj, hn⟩ := first_in (l := r) (x := x) ((List.mem_cons.mp h).resolve_left fun e => c e.symm)
      refine ⟨j + 1, hj, fun m hm z hz => ?_⟩
      cases m with
      | zero =>
        have e : y = z := Option.some.inj hz
        rw [← e]
        exact c
      | succ m => exact hn m (by omega) z hz
theorem ne_box {H : Hp} {p M : Addr} {m : Int} {ms : List V} {mo : List Eg} (bx : BoxAt H p m) (h : H M = some (.lst ms)) (dv : DVs H ms (mo.map eP)) (ne : mo ≠ []) : M ≠ p := fun z => by
  obtain ⟨b0, b1, b2, hb, _⟩ := bx
  rw [z, hb] at h
  cases h
  cases mo with
  | nil => exact ne rfl
  | cons e r =>
    have dv : DVs H [.int b0, .int b1, .int b2] (eP e :: r.map eP) := dv
    cases dv with
    | cons h t =>
      obtain ⟨T, _, _, e1, _⟩ := dv_pair h
      cases e1
theorem walk_len {w : List Pt} (h : walkB (wP w) = true) : 2 ≤ w.length := by
  have h : (decide (2 ≤ (w.map ptP).length) && ((w.map ptP).all ptB && (nbs (w.map ptP)).all id)) = true := h
  rw [Bool.and_eq_true, List.length_map] at h
  exact of_decide_eq_true h.1
theorem wE_len (w : List Pt) : (wE w).length = w.length - 1 := by
  unfold wE
  rw [eds_len, List.length_map]
theorem fs_len : ∀ {fs : List (List Pt)}, (∀ w ∈ fs, walkB (wP w) = true) → fs.length ≤ (fs.flatMap wE).length
  | [], _ => Nat.le_refl _
  | w :: r, h => by
    have ih := fs_len (fs := r) fun x hx => h x (List.mem_cons_of_mem _ hx)
    have := walk_len (h w List.mem_cons_self)
    rw [List.flatMap_cons, List.length_append, List.length_cons, wE_len]
    omega
theorem andV_i {ta tb : TE} {σ : L2.St} {H : Hp} {Q : VK} (h : ta σ H fun x H1 => ∃ c, x = .bl c ∧ if c = true then tb σ H1 Q else Q (.bl false) H1) : tAndV ta tb σ H Q := h
def spDv : Sp := fun vs H Q _ => ∃ (p A : Addr) (es : List Eg) (m : Nat), vs = [.ref p, .ref A] ∧ LE H A es ∧ BoxAt H p (m : Int) ∧ m ≤ 800000 ∧ es.length ≤ 50 ∧
  ∀ (F : Addr) (fv : List V) (fs : List (List Pt)) (H' : Hp), But p H H' → BoxAt H' p ((m + 150 : Nat) : Int) → H' F = some (.lst fv) → H F = none → F ≠ sysModules → DVs H' fv (fs.map wP) → (∀ w ∈ fs, walkB (wP w) = true) → (fs.flatMap wE).Perm es → Q (.ref F) H'
theorem rest2 {t u : TS} {D : Ends} {σ : L2.St} {H : Hp} (Pv : L2.St → Hp → Prop) (h1 : ∀ X : L2.St → Hp → Prop, (∀ σ' HS, Pv σ' HS → X σ' HS) → t { D with nx := X } σ H) (h2 : ∀ σ' HS, Pv σ' HS → u D σ' HS) : tSeq t u D σ H := h1 _ fun σ' HS h => h2 σ' HS h
section
variable {P : Program} {w : World} {K : PySem.W.Frag} {mg : Str → Option Value} {base : Heap}
theorem scDv : FnScope dvN ["_law_box_here", "_law_edges_here"] (defScope (top 39)) := ⟨rfl, rfl, rfl, by decide +kernel, rfl, by decide +kernel, by decide +kernel⟩
theorem ok_dv {f : Addr} {fd : FuncData} (F : Fun K "_law_divided" "_law_divided" (top 39) f fd) (T : Ta mg) (TL : mg "list" = none)
    {fT : Addr} {fdT : FuncData} (GT : FnOk P w K mg base CX0 1 fT fdT ["_law_box_here", "_law_many"] spTake) (AT : At K mg "_law_take" fT fdT ["_law_box_here", "_law_many"]) : FnOk P w K mg base CX0 2 f fd ["_law_box_here", "_law_edges_here"] spDv := by
  refine F.ok scDv (fun vs H Q E h => by obtain ⟨p, A, es, m, rfl, _⟩ := h; rfl) (fun cdv A outer s H vs Q E hr h => ?_)
  obtain ⟨p, Ae, es, m, rfl, le, bx, hm, l50, q⟩ := h
  have hu65 : (A.deeper (envOfC "_law_divided" (defScope (top 39)) s.heap.objs.size f cdv)).units + 65 < cLine := by
    have := hr.un
    omega
  have hu64 : (A.deeper (envOfC "_law_divided" (defScope (top 39)) s.heap.objs.size f cdv)).units + 64 < cLine := by omega
  refine ⟨_, (pss_cons (ps_par (i := 2) (j := 3) rfl scDv.nd rfl rfl (by decide) rfl rfl (pa_cons (pe_callTy call_list_of (by rfl) TL (by decide +kernel) (pa_cons (pv 1) pa_nil)) (pa_cons (pe_lstS pa_nil) pa_nil)) (by rfl))
    (pss_cons (ps_while PassesOwn.never (pt_cmpR (op_neD hu64) (pv 2) (pe_lst pa_nil) (by rfl)) (pss_cons (ps_set (i := 4) scDv.nd rfl (by first | exact Or.inl rfl | exact Or.inr rfl) (pe_bm PySem.F.plainAttrs_list PySem.F.slot_list_pop PySem.F.type_list_pop mt_popAt (pv 2) (pa_cons (pe_call GT (hr.mono (by decide)) rfl AT.g AT.k AT.b .nil pass0 (pa_cons (pv 0) (pa_cons (pe_callB call_len_seq (by rfl) T.len PySem.boot_len (pa_cons (pv 2) pa_nil)) pa_nil))) pa_nil)))
    (pss_cons (ps_set (i := 5) scDv.nd rfl (by first | exact Or.inl rfl | exact Or.inr rfl) (pe_ix (r := rIxL K) (by exact ix_list) (pe_lst (pa_cons (pe_callTy call_list_of (by rfl) TL (by decide +kernel) (pa_cons (pv 4) pa_nil)) (pa_cons (pe_rev (by exact rv_list) (pe_callTy call_list_of (by rfl) TL (by decide +kernel) (pa_cons (pv 4) pa_nil)) (pe_un un_neg pe_int)) pa_nil))) (pe_call GT (hr.mono (by decide)) rfl AT.g AT.k AT.b .nil pass0 (pa_cons (pv 0) (pa_cons pe_int pa_nil))) (fun _ _ => rfl)))
    (pss_cons (ps_set (i := 6) scDv.nd rfl (by first | exact Or.inl rfl | exact Or.inr rfl) pe_bl)
    (pss_cons (ps_while PassesOwn.never (pt_val (pv 6)) (pss_cons (ps_setLc (i := 7) (own := [("_law_one", 8)]) (g := gName 8) (tt := (tTest (tOp (rInT K) (tOp (rIxL K) (tVar 5) (tUn (rU fun i => V.int (-i)) (tC (.int 1)))) (tVar 8)))) (te := (tVar 8)) rfl scDv.nd rfl rfl (sw_true rfl rfl rfl (by decide +kernel)) (pi_list (pv 2)) (blkOk_by (N := dvN) (sc := defScope (top 39)) (by decide +kernel)) (fun _ _ _ _ _ => (pg_name (i := 8) scDv.nd rfl (by first | exact Or.inl rfl | exact Or.inr rfl))) (fun _ _ _ _ _ => pts_one (pt_cmpR (op_inT hu65) (pe_ix (r := rIxL K) (by exact ix_list) (pv 5) (pe_un un_neg pe_int) (fun _ _ => rfl)) (pv 8) (by rfl))) (fun _ _ _ _ _ => (pv 8)))
    (pss_cons (ps_set (i := 6) scDv.nd rfl (by first | exact Or.inl rfl | exact Or.inr rfl) (pe_and (pe_cmpR (op_neD hu64) (pv 7) (pe_lst pa_nil) (by rfl)) (pe_one (pe_cmpR op_gt (pe_call GT (hr.mono (by decide)) rfl AT.g AT.k AT.b .nil pass0 (pa_cons (pv 0) (pa_cons pe_int pa_nil))) pe_int (nomark _)))))
    (pss_one (ps_if (pt_val (pv 6)) (pss_cons (ps_set (i := 4) scDv.nd rfl (by first | exact Or.inl rfl | exact Or.inr rfl) (pe_ix (r := rIxL K) (by exact ix_list) (pv 7) (pe_call GT (hr.mono (by decide)) rfl AT.g AT.k AT.b .nil pass0 (pa_cons (pv 0) (pa_cons (pe_callB call_len_seq (by rfl) T.len PySem.boot_len (pa_cons (pv 7) pa_nil)) pa_nil))) (fun _ _ => rfl)))
    (pss_cons (ps_expr (pe_bm PySem.F.plainAttrs_list PySem.F.slot_list_remove PySem.F.type_list_remove (mt_removeD hu65) (pv 2) (pa_cons (pv 4) pa_nil)))
    (pss_one (ps_expr (pe_bm PySem.F.plainAttrs_list PySem.F.slot_list_append PySem.F.type_list_append mt_append (pv 5) (pa_cons (pe_ix (r := rIxT K) (by exact ix_tup) (pv 4) (pe_callTy call_int1 (by rfl) T.int (by decide +kernel) (pa_cons (pe_cmpR (op_eqD hu64) (pe_ix (r := rIxT K) (by exact ix_tup) (pv 4) pe_int (fun _ _ => rfl)) (pe_ix (r := rIxL K) (by exact ix_list) (pv 5) (pe_un un_neg pe_int) (fun _ _ => rfl)) (nomark _)) pa_nil)) (fun _ _ => rfl)) pa_nil)))))) pss_nil)))))
    (pss_one (ps_expr (pe_bm PySem.F.plainAttrs_list PySem.F.slot_list_append PySem.F.type_list_append mt_append (pv 3) (pa_cons (pe_callTy call_tuple_of (by rfl) T.tup (by decide +kernel) (pa_cons (pv 5) pa_nil)) pa_nil)))))))))
    (pss_one (ps_ret (pv 3))))), ?_⟩
  dsimp only
  obtain ⟨⟨xs, hA, dxs⟩, asc, edE, _⟩ := le
  refine seq_i (par_i (cons_i (cb_i (cons_i ⟨_, rfl, nil_i ⟨Ae, xs, rfl, .inl (SqL.of hA), fun L nL => ?_⟩⟩))))
  refine cons_i ⟨Nat.zero_le _, fun F nF nsF => nil_i ⟨_, _, rfl, ?_⟩⟩
  have nLp : L ≠ p := bx.ne nL
  have nFL : F ≠ L := fun z => by rw [z, upd_same] at nF; cases nF
  have nFH : H F = none := by rw [upd_ne nFL] at nF; exact nF
  have nFp : F ≠ p := bx.ne nFH
  have s0 : Same H (upd (upd H L (.lst xs)) F (.lst [])) := fun b o e => stay (stay e nL) nF
  have oL : Own H p (upd (upd H L (.lst xs)) F (.lst [])) L xs (es.map eP) := ⟨by rw [upd_ne nFL.symm]; exact upd_same, dxs.more s0, imms_es _, nL, nLp⟩
  have oF : Own H p (upd (upd H L (.lst xs)) F (.lst [])) F [] (([] : List (List Pt)).map wP) := ⟨upd_same, .nil, rfl, nFH, nFp⟩
  have bx0 := bx.more s0
  have bt0 : But p H (upd (upd H L (.lst xs)) F (.lst [])) := same_but s0
  generalize upd (upd H L (.lst xs)) F (.lst []) = H0 at oL oF bx0 bt0
  dsimp only
  let St : L2.St → Hp → Nat → Prop := fun σ H1 k => ∃ (o4 o5 o6 o7 o8 : Option V) (lv fv : List V) (left : List Eg) (fs : List (List Pt)), σ = [some (.ref p), some (.ref Ae), some (.ref L), some (.ref F), o4, o5, o6, o7, o8] ∧ left.length = k ∧ Own H p H1 L lv (left.map eP) ∧ Own H p H1 F fv (fs.map wP) ∧
    BoxAt H1 p ((m + 3 * (es.length - left.length) : Nat) : Int) ∧ But p H H1 ∧ (fs.flatMap wE ++ left).Perm es ∧ ∀ w ∈ fs, walkB (wP w) = true
  refine rest2 (fun σ H1 => St σ H1 0) (fun X hX => ⟨fun n σ H1 => St σ H1 n, ⟨es.length, none, none, none, none, none, xs, [], es, [], rfl, rfl, oL, oF, bx0.le (by omega), bt0, List.Perm.refl _, fun w h => nomatch h⟩, ?_⟩) ?_
  · rintro n σ H1 ⟨o4, o5, o6, o7, o8, lv, fv, left, fs, rfl, rfl, oL, oF, bx1, bt1, pm, okw⟩
    refine mkt_go (!decide (left = [])) (mkt_test (mak_neNilE (mak_var rfl (.lst oL.at_ oL.dv)))) fun H2 s2 => ?_
    by_cases c : left = []
    · rw [decide_eq_true c]
      refine ifF rfl (hX _ _ ⟨o4, o5, o6, o7, o8, lv, fv, left, fs, rfl, by rw [c]; rfl, oL.same s2, oF.same s2, bx1.more s2, but_more bt1 s2, pm, okw⟩)
    rw [decide_eq_false c]
    refine ifT rfl ⟨fun σ' H' => ∃ k, k < left.length ∧ St σ' H' k, fun σ' H' ⟨k, lk, h⟩ => ⟨k, lk, h⟩, ?_⟩
    have oL := oL.same s2
    have oF := oF.same s2
    have bx1 := bx1.more s2
    have bt1 := but_more bt1 s2
    clear s2
    have lll : lv.length = left.length := by rw [oL.dv.length, List.length_map]
    have pos : 0 < left.length := List.length_pos_iff.mpr c
    have lpm := pm.length_eq
    rw [List.length_append] at lpm
    -- an edge is popped
    refine seq_i (asg_i ⟨_, rfl, .inl ⟨rfl, _, SqL.of oL.at_⟩, cons_i (tk_i rfl bx1 (by omega) (mak_lenL (mak_var rfl (.lst oL.at_ oL.dv))) (by rw [List.length_map]; omega) (by rw [List.length_map]; omega) fun r H3 r0 r1 bx3 b3 => nil_i ?_)⟩)
    rw [List.length_map] at r1
    have oL3 := oL.take bx1 b3
    have oF3 := oF.take bx1 b3
    have bt3 := but_tr bt1 b3
    have hr : r.toNat < lv.length := by omega
    have hrl : r.toNat < left.length := by omega
    obtain ⟨e, he, de⟩ := dvs_at oL3.dv (List.getElem?_eq_getElem hr)
    have mE : e ∈ es := pm.mem_iff.mp (List.mem_append_right _ (List.mem_of_getElem? he))
    obtain ⟨a, b⟩ := e
    obtain ⟨w1, w2, ona, onb, n1', n2'⟩ := edge_two (edE _ mE)
    refine ⟨L, lv, r, r.toNat, lv[r.toNat], rfl, rfl, oL3.at_, by omega, by omega, seqIndex_of r0 (by omega), List.getElem?_eq_getElem hr, ?_⟩
    have oL4 := oL3.set (zs := lv.eraseIdx r.toNat) (es := (left.eraseIdx r.toNat).map eP) (by rw [← map_erase]; exact dvs_erase' _ oL3.dv) (imms_es _)
    have oF4 := oF3.other (zs := lv.eraseIdx r.toNat) oL3.at_ nFL
    have bx4 := box_but bx3 nLp but_upd (H' := upd H3 L (.lst (lv.eraseIdx r.toNat)))
    have bt4 := but_set (o := .lst (lv.eraseIdx r.toNat)) bt3 nL
    have de4 := dv_tk (oL3.tk (zs := lv.eraseIdx r.toNat)) de (eP_imm _)
    have pm4 : (fs.flatMap wE ++ ([(a, b)] ++ left.eraseIdx r.toNat)).Perm es := ((perm_erase he).append_left _).trans pm
    have len4 : (left.eraseIdx r.toNat).length + 1 = left.length := by rw [List.length_eraseIdx_of_lt hrl]; omega
    generalize upd H3 L (.lst (lv.eraseIdx r.toNat)) = H4 at oL4 oF4 bx4 bt4 de4
    generalize left.eraseIdx r.toNat = lf4 at oL4 pm4 len4
    generalize lv.eraseIdx r.toNat = lv4 at oL4
    generalize lv[r.toNat] = ev at de4
    clear oL oF bx1 bt1 oL3 oF3 bt3 bx3 b3 he de hr hrl lll pm
    dsimp only [gName]
    have nFp := oF4.np
    obtain ⟨T4, pa, pb, rfl, hT4, dpa, dpb⟩ := dv_pair de4
    -- one way or the other
    refine rest2 (fun σ H5 => ∃ (W : Addr) (wv : List V) (x y : Pt), σ = [some (.ref p), some (.ref Ae), some (.ref L), some (.ref F), some (.ref T4), some (.ref W), o6, o7, o8] ∧ Own H p H5 W wv ([x, y].map ptP) ∧ edOf x y = (a, b) ∧ walkB (wP [x, y]) = true ∧ W ≠ L ∧ W ≠ F ∧ Own H p H5 L lv4 (lf4.map eP) ∧ Own H p H5 F fv (fs.map wP) ∧ BoxAt H5 p ((m + 3 * (es.length - lf4.length) - 1 : Nat) : Int) ∧ But p H H5) (fun X hX => asg_i (op_i (lst_i (cons_i (cb_i (cons_i ⟨_, rfl, nil_i ⟨T4, [pa, pb], rfl, .inr (SqT.of hT4), fun l1 n1 => ?_⟩⟩)))))) ?_
    · have s1 : Same H4 (upd H4 l1 (.lst [pa, pb])) := fun b o e => stay e n1
      refine cons_i ⟨_, rfl, T4, [pa, pb], rfl, .inr (SqT.of (s1 _ _ hT4)), fun l2 n2 => ⟨1, rfl, rfl, l2, [pa, pb], rfl, SqL.of upd_same, fun l3 n3 => nil_i ⟨(by show 2 ≤ sizeLine; decide), fun Z nZ => ?_⟩⟩⟩
      have h1 : upd (upd (upd (upd H4 l1 (.lst [pa, pb])) l2 (.lst [pa, pb])) l3 (.lst [pb, pa])) Z (.lst [.ref l1, .ref l3]) l1 = some (.lst [pa, pb]) := stay (stay (stay upd_same n2) n3) nZ
      have h3 : upd (upd (upd (upd H4 l1 (.lst [pa, pb])) l2 (.lst [pa, pb])) l3 (.lst [pb, pa])) Z (.lst [.ref l1, .ref l3]) l3 = some (.lst [pb, pa]) := stay upd_same nZ
      have hZ : upd (upd (upd (upd H4 l1 (.lst [pa, pb])) l2 (.lst [pa, pb])) l3 (.lst [pb, pa])) Z (.lst [.ref l1, .ref l3]) Z = some (.lst [.ref l1, .ref l3]) := upd_same
      have s5 : Same H4 (upd (upd (upd (upd H4 l1 (.lst [pa, pb])) l2 (.lst [pa, pb])) l3 (.lst [pb, pa])) Z (.lst [.ref l1, .ref l3])) := fun b o e => stay (stay (stay (stay e n1) n2) n3) nZ
      have f3 : H4 l3 = none := by
        cases e : H4 l3 with
        | none => rfl
        | some o => rw [stay (stay e n1) n2] at n3; cases n3
      have fZ : H4 Z = none := by
        cases e : H4 Z with
        | none => rfl
        | some o => rw [stay (stay (stay e n1) n2) n3] at nZ; cases nZ
      show tCall _ _ _ _ _ (upd (upd (upd (upd H4 l1 (.lst [pa, pb])) l2 (.lst [pa, pb])) l3 (.lst [pb, pa])) Z (.lst [.ref l1, .ref l3])) _
      generalize upd (upd (upd (upd H4 l1 (.lst [pa, pb])) l2 (.lst [pa, pb])) l3 (.lst [pb, pa])) Z (.lst [.ref l1, .ref l3]) = H5 at h1 h3 hZ s5
      have bx5 := bx4.more s5
      refine tk_i (p := p) rfl bx5 (by omega) mak_int (by omega) (by omega) fun r H6 r0 r1 bx6 b6 => ?_
      have np1 : l1 ≠ p := bx4.ne n1
      have np3 : l3 ≠ p := bx4.ne f3
      have npZ : Z ≠ p := bx4.ne fZ
      have tk5 : Tk H5 H6 := but_tk b6 (box_notup bx5)
      have da : DVs H6 [pa, pb] ([a, b].map ptP) := dvs_tk tk5 (.cons (dpa.more s5) (.cons (dpb.more s5) .nil)) (imms_ps _)
      have db : DVs H6 [pb, pa] ([b, a].map ptP) := dvs_tk tk5 (.cons (dpb.more s5) (.cons (dpa.more s5) .nil)) (imms_ps _)
      have oL6 := (oL4.same s5).take bx5 b6
      have oF6 := (oF4.same s5).take bx5 b6
      have bt6 := but_tr (but_more bt4 s5) b6
      have bx6 : BoxAt H6 p ((m + 3 * (es.length - lf4.length) - 1 : Nat) : Int) := bx6.le (by omega)
      have w1' : l1 ≠ L ∧ l1 ≠ F := ⟨ne_of_none oL4.at_ n1 |>.symm, ne_of_none oF4.at_ n1 |>.symm⟩
      have w3' : l3 ≠ L ∧ l3 ≠ F := ⟨ne_of_none oL4.at_ f3 |>.symm, ne_of_none oF4.at_ f3 |>.symm⟩
      rcases (show r = 0 ∨ r = 1 by omega) with rfl | rfl
      · exact ⟨Z, _, 0, .ref l1, rfl, rfl, SqL.of (b6 _ _ npZ hZ), atI_nat (j := 0) rfl, hX _ _ ⟨l1, _, a, b, rfl, ⟨b6 _ _ np1 h1, da, imms_ps _, new_but bt4 n1 np1, np1⟩, w1, walk_two ona onb n1', w1'.1, w1'.2, oL6, oF6, bx6, bt6⟩⟩
      · exact ⟨Z, _, 1, .ref l3, rfl, rfl, SqL.of (b6 _ _ npZ hZ), atI_nat (j := 1) rfl, hX _ _ ⟨l3, _, b, a, rfl, ⟨b6 _ _ np3 h3, db, imms_ps _, new_but bt4 f3 np3, np3⟩, w2, walk_two onb ona n2', w3'.1, w3'.2, oL6, oF6, bx6, bt6⟩⟩
    rintro σ H5 ⟨W, wv, x, y, rfl, oW, wxy, wkb, nWL, nWF, oL5, oF5, bx5, bt5⟩
    refine seq_i (asg_i (c_i ?_))
    dsimp only [gName]
    have wE0 : wE ([x] ++ [y]) = [(a, b)] := by
      show [edOf x y] = _
      rw [wxy]
    have pm5 : ((fs.flatMap wE ++ wE ([x] ++ [y])) ++ lf4).Perm es := by
      rw [wE0, List.append_assoc]
      exact pm4
    let St2 : L2.St → Hp → Bool → Nat → Prop := fun σ H1 g k => ∃ (o4 o7 o8 : Option V) (lv wv : List V) (lf : List Eg) (u : List Pt) (z : Pt), σ = [some (.ref p), some (.ref Ae), some (.ref L), some (.ref F), o4, some (.ref W), some (.bl g), o7, o8] ∧ lf.length = k ∧ Own H p H1 L lv (lf.map eP) ∧ Own H p H1 F fv (fs.map wP) ∧
      Own H p H1 W wv ((u ++ [z]).map ptP) ∧ BoxAt H1 p ((m + 3 * (es.length - lf.length) - (if g = true then 1 else 0) : Nat) : Int) ∧ But p H H1 ∧ ((fs.flatMap wE ++ wE (u ++ [z])) ++ lf).Perm es ∧ walkB (wP (u ++ [z])) = true ∧ lf.length < left.length
    refine rest2 (fun σ H1 => ∃ k, St2 σ H1 false k) (fun X hX => ⟨fun n σ H1 => ∃ g k, n = k + (if g = true then 1 else 0) ∧ St2 σ H1 g k, ⟨_, true, lf4.length, rfl, some (.ref T4), o7, o8, lv4, wv, lf4, [x], y, rfl, rfl, oL5, oF5, oW, bx5, bt5, pm5, wkb, by omega⟩, ?_⟩) ?_
    · rintro n σ H6 ⟨g, k, rfl, o4, o7, o8, lv, wv, lf, u, z, rfl, rfl, oL, oF, oW, bx6, bt6, pm6, wk6, lt6⟩
      cases g with
      | false => exact ⟨_, rfl, false, rfl, ifF rfl (hX _ _ ⟨lf.length, o4, o7, o8, lv, wv, lf, u, z, rfl, rfl, oL, oF, oW, bx6, bt6, pm6, wk6, lt6⟩)⟩
      | true =>
        refine ⟨_, rfl, true, rfl, ifT rfl ⟨fun σ' H' => ∃ g' k', k' + (if g' = true then 1 else 0) < lf.length + 1 ∧ St2 σ' H' g' k', fun σ' H' ⟨g', k', l', h'⟩ => ⟨_, l', g', k', rfl, h'⟩, ?_⟩⟩
        have lpm6 := pm6.length_eq
        rw [List.length_append, List.length_append] at lpm6
        -- the edges that go on
        have dW : ∀ {H' : Hp}, Same H6 H' → DV H' (.ref W) (.list (u.map ptP ++ [ptP z])) := fun s => by
          have := oW.dv.more s
          rw [List.map_append] at this
          exact .lst (s _ _ oW.at_) this
        refine seq_i (asg_i ?_)
        refine mak_go (.list ((lf.filter fun e => decide (z = e.1) || decide (z = e.2)).map eP)) (mak_sel (K := K) (i := 8) (tl := tVar 2) (fun e => decide (z = e.1) || decide (z = e.2)) (mak_var rfl (.lst oL.at_ oL.dv)) (by omega) (by show 8 < 9; decide) fun H' v e s' he dv => mkt_test (mak_inP (a := e.1) (b := e.2) (mak_last (mak_var (i := 5) (v := .ref W) rfl (dW s'))) (mak_var (i := 8) rfl dv))) fun vm H7 s7 dm => ?_
        have memo : ∀ e ∈ lf.filter (fun e => decide (z = e.1) || decide (z = e.2)), e ∈ lf ∧ (z = e.1 ∨ z = e.2) := fun e he => by
          have := List.mem_filter.mp he
          simpa using this
        have lmo := List.length_filter_le (fun e : Eg => decide (z = e.1) || decide (z = e.2)) lf
        generalize lf.filter (fun e => decide (z = e.1) || decide (z = e.2)) = mo at dm memo lmo
        dsimp only [gName]
        -- shall it go on?
        refine rest2 (fun σ H9 => ∃ g', σ = [some (.ref p), some (.ref Ae), some (.ref L), some (.ref F), o4, some (.ref W), some (.bl g'), some vm, o8] ∧ (g' = true → mo ≠ [] ∧ ∃ M ms, vm = .ref M ∧ M ≠ p ∧ H9 M = some (.lst ms) ∧ DVs H9 ms (mo.map eP)) ∧ Own H p H9 L lv (lf.map eP) ∧ Own H p H9 F fv (fs.map wP) ∧ Own H p H9 W wv ((u ++ [z]).map ptP) ∧ BoxAt H9 p ((m + 3 * (es.length - lf.length) : Nat) : Int) ∧ But p H H9) (fun X hX => asg_i (andV_i ?_)) ?_
        · refine mak_go (.bool (!decide (mo = []))) (mak_neNilE (mak_var rfl dm)) fun vb H8 s8 db => ?_
          cases db
          have s68 := same_tr s7 s8
          have bx8 := bx6.more s68
          by_cases em : mo = []
          · refine ⟨_, rfl, ifF (by rw [decide_eq_true em]; rfl) (hX _ _ ⟨false, rfl, (fun h => absurd h (by decide)), oL.same s68, oF.same s68, oW.same s68, bx8.le (by rw [if_pos rfl]; omega), but_more bt6 s68⟩)⟩
          · refine ⟨_, rfl, ifT (by rw [decide_eq_false em]; rfl) (op_i (tk_i (p := p) rfl bx8 (by rw [if_pos rfl]; omega) mak_int (by omega) (by omega) fun r H9 r0 r1 bx9 b9 => ⟨r, 0, rfl, rfl, hX _ _ ⟨decide (0 < r), rfl, fun _ => ⟨em, ?_⟩, (oL.same s68).take bx8 b9, (oF.same s68).take bx8 b9, (oW.same s68).take bx8 b9, bx9.le (by rw [if_pos rfl]; omega), but_tr (but_more bt6 s68) b9⟩⟩))⟩
            obtain ⟨M, ms, rfl, hM, dms⟩ := dv_lst (dm.more s8)
            have nMp := ne_box bx8 hM dms em
            exact ⟨M, ms, rfl, nMp, b9 _ _ nMp hM, dvs_box dms bx8 b9⟩
        rintro σ H9 ⟨g', rfl, hg, oL9, oF9, oW9, bx9, bt9⟩
        refine ifs_i ⟨_, rfl, g', rfl, ?_⟩
        cases g' with
        | false => exact ifF rfl (next_i ⟨false, lf.length, by simp, o4, some vm, o8, lv, wv, lf, u, z, rfl, rfl, oL9, oF9, oW9, bx9, bt9, pm6, wk6, lt6⟩)
        | true =>
          obtain ⟨em, M, ms, rfl, nMp, hM, dms⟩ := hg rfl
          refine ifT rfl ?_
          have lms : ms.length = mo.length := by rw [dms.length, List.length_map]
          have pos9 : 0 < mo.length := List.length_pos_iff.mpr em
          -- an edge of them
          refine rest2 (fun σ H10 => ∃ (ev : V) (e : Eg), σ = [some (.ref p), some (.ref Ae), some (.ref L), some (.ref F), some ev, some (.ref W), some (.bl true), some (.ref M), o8] ∧ e ∈ mo ∧ DV H10 ev (eP e) ∧ Own H p H10 L lv (lf.map eP) ∧ Own H p H10 F fv (fs.map wP) ∧ Own H p H10 W wv ((u ++ [z]).map ptP) ∧ BoxAt H10 p ((m + 3 * (es.length - lf.length) + 1 : Nat) : Int) ∧ But p H H10) (fun X hX => asg_i (op_i ⟨_, rfl, tk_i (p := p) rfl bx9 (by omega) (mak_lenL (mak_var (i := 7) (v := .ref M) rfl (.lst hM dms))) (by rw [List.length_map]; omega) (by rw [List.length_map]; omega) fun r H10 r0 r1 bx10 b10 => ?_⟩)) ?_
          · rw [List.length_map] at r1
            have hr : r.toNat < ms.length := by omega
            have d10 := dvs_box dms bx9 b10
            obtain ⟨e, he, de⟩ := dvs_at d10 (List.getElem?_eq_getElem hr)
            have ri : r = ((r.toNat : Nat) : Int) := by omega
            rw [ri]
            exact ⟨M, ms, _, ms[r.toNat], rfl, rfl, SqL.of (b10 _ _ nMp hM), atI_nat (List.getElem?_eq_getElem hr), hX _ _ ⟨_, e, rfl, List.mem_of_getElem? he, de, oL9.take bx9 b10, oF9.take bx9 b10, oW9.take bx9 b10, bx10.le (by omega), but_tr bt9 b10⟩⟩
          rintro σ H10 ⟨ev, e, rfl, me, de, oL10, oF10, oW10, bx10, bt10⟩
          obtain ⟨mlf, ez⟩ := memo e me
          have mes : e ∈ es := pm6.mem_iff.mp (List.mem_append_right _ mlf)
          obtain ⟨j, hj, fj⟩ := first_in mlf
          -- removed
          refine seq_i ⟨_, rfl, .inl ⟨rfl, _, SqL.of oL10.at_⟩, cons_i ⟨_, rfl, nil_i ⟨L, lv, ev, eP e, lf.map eP, j, eP e, rfl, rfl, oL10.at_, dps_of oL10.dv oL10.im, dp_of de (eP_imm _), shaped_es _, shaped_eP _, by rw [List.getElem?_map, hj]; rfl, by rw [eqv_eP]; exact decide_eq_true rfl, fun m' z' hm' hz' => ?_, ?_⟩⟩⟩
          · rw [List.getElem?_map] at hz'
            obtain ⟨y', hy', rfl⟩ := Option.map_eq_some_iff.mp hz'
            rw [eqv_eP]
            exact decide_eq_false (fj m' hm' y' hy')
          have oL11 := oL10.set (zs := lv.eraseIdx j) (es := (lf.eraseIdx j).map eP) (by rw [← map_erase]; exact dvs_erase' _ oL10.dv) (imms_es _)
          have oF11 := oF10.other (zs := lv.eraseIdx j) oL10.at_ nFL
          have oW11 := oW10.other (zs := lv.eraseIdx j) oL10.at_ nWL
          have bx11 := box_but bx10 nLp but_upd (H' := upd H10 L (.lst (lv.eraseIdx j)))
          have bt11 := but_set (o := .lst (lv.eraseIdx j)) bt10 nL
          have de11 := dv_tk (oL10.tk (zs := lv.eraseIdx j)) de (eP_imm _)
          have hjl : j < lf.length := (List.getElem?_eq_some_iff.mp hj).1
          have len11 : (lf.eraseIdx j).length + 1 = lf.length := by rw [List.length_eraseIdx_of_lt hjl]; omega
          have pm11 : ((fs.flatMap wE ++ wE (u ++ [z])) ++ ([e] ++ lf.eraseIdx j)).Perm es := ((perm_erase hj).append_left _).trans pm6
          generalize upd H10 L (.lst (lv.eraseIdx j)) = H11 at oL11 oF11 oW11 bx11 bt11 de11
          generalize lf.eraseIdx j = lf11 at oL11 len11 pm11
          generalize lv.eraseIdx j = lv11 at oL11
          dsimp only
          -- and walked
          obtain ⟨ea, eb⟩ := e
          obtain ⟨g1, g2, ona', onb', m1', m2'⟩ := edge_two (edE _ mes)
          obtain ⟨k, o, hk, ho, hzo, ono, nzo⟩ : ∃ (k : Nat) (o : Pt), (if decide (ea = z) = true then (1 : Int) else 0) = (k : Int) ∧ ([ptP ea, ptP eb])[k]? = some (ptP o) ∧ edOf z o = (ea, eb) ∧ onP o = true ∧ (wayS (o.1 - z.1) (o.2 - z.2)).isSome = true := by
            by_cases c1 : ea = z
            · subst c1
              exact ⟨1, eb, by rw [decide_eq_true rfl]; rfl, rfl, g1, onb', m1'⟩
            · have : z = eb := ez.resolve_left fun h => c1 h.symm
              subst this
              exact ⟨0, ea, by rw [decide_eq_false c1]; rfl, rfl, g2, ona', m2'⟩
          refine ⟨_, rfl, .inl ⟨rfl, _, SqL.of oW11.at_⟩, cons_i ?_⟩
          have dW11 : DV H11 (.ref W) (.list (u.map ptP ++ [ptP z])) := by
            have := oW11.dv
            rw [List.map_append] at this
            exact .lst oW11.at_ this
          have mk1 := mak_intB (mak_eqP (K := K) (σ := [some (V.ref p), some (.ref Ae), some (.ref L), some (.ref F), some ev, some (.ref W), some (.bl true), some (.ref M), o8]) (H0 := H11) (mak_ix (K := K) (k := 0) (mak_var (i := 4) rfl de11) rfl) (mak_last (K := K) (mak_var (i := 5) rfl dW11)))
          rw [hk] at mk1
          refine mak_go _ (mak_ixN (mak_var (i := 4) rfl de11) mk1 ho) fun v H12 s12 dv12 => nil_i ?_
          have oW12 := oW11.same s12
          have lwv : wv.length = (u ++ [z]).length := by rw [oW12.dv.length, List.length_map]
          have lw := wE_len (u ++ [z])
          refine ⟨W, wv, v, rfl, rfl, oW12.at_, Nat.lt_of_le_of_lt (show wv.length ≤ 1000 by omega) (by decide), ?_⟩
          refine ⟨true, lf11.length, by rw [if_pos rfl]; omega, _, _, _, lv11, wv ++ [v], lf11, u ++ [z], o, rfl, rfl, (oL11.same s12).other oW12.at_ nWL.symm, (oF11.same s12).other oW12.at_ nWF.symm, ?_, ?_, but_set (but_more bt11 s12) oW12.nw, ?_, ?_, by omega⟩
          · rw [List.map_append]
            exact oW12.set (dvs_app oW12.dv (.cons dv12 .nil)) (imms_all fun d hd => by
              rcases List.mem_append.mp hd with h | h
              · obtain ⟨q', _, rfl⟩ := List.mem_map.mp h
                exact ptP_imm q'
              · rw [List.mem_singleton.mp h]
                exact ptP_imm o)
          · refine (box_but (bx11.more s12) oW12.np but_upd).le ?_
            rw [if_pos rfl]
            omega
          · have eW : wE ((u ++ [z]) ++ [o]) = wE (u ++ [z]) ++ [(ea, eb)] := by
              rw [List.append_assoc]
              exact (wE_snoc u z o).trans (by rw [hzo])
            rw [eW]
            simpa [List.append_assoc] using pm11
          · rw [List.append_assoc]
            exact walk_snoc wk6 ono nzo
    · rintro σ H6 ⟨k, o4, o7, o8, lv, wv, lf, u, z, rfl, rfl, oL, oF, oW, bx6, bt6, pm6, wk6, lt6⟩
      have nFLp := oF.np
      refine ⟨_, rfl, .inl ⟨rfl, _, SqL.of oF.at_⟩, cons_i (cb_i (cons_i ⟨_, rfl, nil_i ⟨W, wv, rfl, .inl ⟨SqL.of oW.at_, fun t nt => nil_i ?_⟩⟩⟩))⟩
      have s7 : Same H6 (upd H6 t (.tup wv)) := fun b o e => stay e nt
      have ht7 : upd H6 t (.tup wv) t = some (.tup wv) := upd_same
      have oL7 := oL.same s7
      have oF7 := oF.same s7
      have oW7 := oW.same s7
      have bx7 := bx6.more s7
      have bt7 := but_more bt6 s7
      generalize upd H6 t (.tup wv) = H7 at ht7 oL7 oF7 oW7 bx7 bt7
      have lfv : fv.length = fs.length := by rw [oF7.dv.length, List.length_map]
      refine ⟨F, fv, .ref t, rfl, rfl, oF7.at_, ?_, ⟨lf.length, lt6, _, _, _, _, _, lv, fv ++ [.ref t], lf, fs ++ [u ++ [z]], rfl, rfl, oL7.other oF7.at_ nFL.symm, ?_, (box_but bx7 nFp but_upd).le (by simp), but_set bt7 nFH, ?_, ?_⟩⟩
      · have l1 := fs_len okw
        have l2 := pm6.length_eq
        rw [List.length_append, List.length_append] at l2
        exact Nat.lt_of_le_of_lt (show fv.length ≤ 1000 by omega) (by decide)
      · rw [List.map_append]
        refine oF7.set (dvs_app oF7.dv (.cons (.tup ht7 oW7.dv) .nil)) ?_
        exact imms_all fun d hd => by
          rcases List.mem_append.mp hd with h | h
          · obtain ⟨v, _, rfl⟩ := List.mem_map.mp h
            show imms (v.map ptP) = true
            exact imms_ps v
          · obtain ⟨v, _, rfl⟩ := List.mem_map.mp h
            show imms (v.map ptP) = true
            exact imms_ps v
      · rw [List.flatMap_append]
        simpa using pm6
      · intro v hv
        rcases List.mem_append.mp hv with h | h
        · exact okw v h
        · rw [List.mem_singleton.mp h]
          exact wk6
  · rintro σ H1 ⟨o4, o5, o6, o7, o8, lv, fv, left, fs, rfl, l0, oL, oF, bx1, bt1, pm, okw⟩
    have : left = [] := List.length_eq_zero_iff.mp l0
    subst this
    rw [List.append_nil] at pm
    exact ret_i ⟨_, rfl, q F fv fs H1 bt1 (bx1.le (by omega)) oF.at_ nFH nsF oF.dv okw pm⟩

end
end Y1
set_option Elab.async false
set_option linter.all false
set_option maxRecDepth 100000
set_option maxHeartbeats 4000000
/-! A def that may be called anywhere, and that may ask repr. -/
namespace Nv
open PySem PySem.Spec PyProof.Rows L2
structure FnAG (P : Program) (w : World) (K : PySem.W.Frag) (mg : Str → Option Value) (base : Heap) (k : Nat) (f : Addr) (fd : FuncData) (ps : List Str) (sp : Sp) : Prop where
  many : ∀ vs H Q E, sp vs H Q E → vs.length = ps.length
  does : ∀ (A : Around) (outer : List Env) (s : Shared) (H : Hp) (ar : Args) (us : List Value) (vs : List V) (Q : VK),
    A.guards = some [] → L2H.RoomH k A → Env0 P w K mg base A outer s H → BindsTo s fd ar (ps.zip us) → Vals vs us → sp vs H Q E0 →
    codeAny (model P w) A (.call (.ref f) ar) (CR CX0 outer P w H s Q E0) s

section
variable {P : Program} {w : World} {K : PySem.W.Frag} {mg : Str → Option Value} {base : Heap}
theorem FnAG.made {x qual : Str} {st : Stmt} {f : Addr} {fd : FuncData} {N ps : List Str} {k : Nat} {sp : Sp} (F : Fun K x qual st f fd) (S : FnScope N ps (defScope st))
    (many : ∀ vs H Q E, sp vs H Q E → vs.length = ps.length)
    (body : ∀ (cdv : Value) (A : Around) (outer : List Env) (s : Shared) (H : Hp) (vs : List V) (Q : VK), A.guards = some [] →
      L2H.RoomH k (A.deeper (envOfC qual (defScope st) s.heap.objs.size f cdv)) → sp vs H Q E0 →
      ∃ t, PSs (cxA P w K mg base N qual (defScope st) f cdv A outer s H) (defBody st) t ∧ t { nx := fun _ H' => Q .non H', rt := Q } (start N vs) H) :
    FnAG P w K mg base (k + 1) f fd ps sp := by
  obtain ⟨oc, od, kV, doc, pm, an, cdv, ct, osl, rfl, lk, hcd⟩ := F.ex
  constructor
  · exact many
  intro A outer s H ar us vs Q gd room env hb rel want
  obtain ⟨t, der, hq⟩ := body cdv A outer s H vs Q gd (room.deeper _) want
  have inK : K.In s.heap := env.mod.kin.keeps fun b o z => (env.bs b o z).1
  have nolim : s.heap.NoLimit := env.mod.nolimit.keeps fun b o z => (env.bs b o z).1
  refine Att.call_fn inK nolim lk hcd room.depth hb (all_kinds S us) (fun s1 ic => ?_) S.co S.gen S.kind
  -- the state at the entry, read with nothing handled; then as it is
  have env' : Env0 P w K mg base { A with handled := none } outer s H := { frames := env.frames, mod := env.mod, bs := env.bs, bsz := env.bsz, funs := env.funs, frf := env.frf, hok := env.hok, bare := env.bare }
  have J := inv_start (CX := CX0) (E := E0) (N := N) S rfl env' (many _ _ _ _ want) rel ic
  have o := J.ok
  have o' : (cxA P w K mg base N qual (defScope st) f cdv A outer s H).Ok := { mod := o.mod, kind := o.kind, glob := o.glob, blt := o.blt, above := o.above, inj := o.inj, has := o.has, cab := o.cab, hd := fun z => Bool.noConfusion (show false = true from z), frames := o.frames, stk := o.stk, exf := o.exf, bs := o.bs, bsz := o.bsz, noex := o.noex, exfs := o.exfs, funs := o.funs, frf := o.frf }
  have J' : Inv (cxA P w K mg base N qual (defScope st) f cdv A outer s H) [] (start N vs) H s1 := { ok := o', os := J.os, bare := J.bare, base := J.base, loc := J.loc, cell := J.cell, free := J.free, freeC := J.freeC, pin := J.pin, hok := J.hok, len := J.len }
  refine wpAny_mono (der.run [] s1 _ H _ J' hq) ?_ fun _ _ z => z.elim
  rintro (_ | _ | _ | u) s' z
  · obtain ⟨σ', H', Z, q⟩ := z
    exact ⟨.non, H', Z.os, Z.bare, Z.base, Z.hok, rfl, q⟩
  · obtain ⟨_, _, _, q⟩ := z
    exact q.elim
  · obtain ⟨_, _, _, q⟩ := z
    exact q.elim
  · obtain ⟨v, σ', H', Z, r, q⟩ := z
    exact ⟨v, H', Z.os, Z.bare, Z.base, Z.hok, r, q⟩
end

section
variable {X : Cx} {k : Nat} {f : Addr} {fd : FuncData} {y : Str} {sp : Sp} {x : Str} {p pos : Pos} {e : Expr} {te : TE}
def oneAG (R : V → Hp → Prop) : List V → Hp → Prop
  | [v], H => R v H
  | _, _ => False
theorem oneAG_of {R : V → Hp → Prop} {vs : List V} {H : Hp} (h : oneAG R vs H) : ∃ v, vs = [v] ∧ R v H := by
  rcases vs with _ | ⟨v, _ | ⟨_, _⟩⟩
  · exact h.elim
  · exact ⟨v, rfl, h⟩
  · exact h.elim
/-- x(e) -/
theorem pe_callAG (F : FnAG X.prog X.w X.K X.mg X.base k f fd [y] sp) (gd : X.A.guards = some []) (hr : L2H.RoomH k X.A) (hg : Gl X x) (hm : X.mg x = some (.ref f)) (hk : PySem.W.keepIn X.K (.ref f) = true) (hb : Binds X.K fd [y] []) (he : PE X e te)
    (hs : starEach (e :: []) X.env = (false, eval e X.env) :: starEach [] X.env := by rfl) (hpl : (backTo pos (starEach [] X.env)).any (·.1) = false := by rfl) (hdb : (x == ("__debug__" : Str)) = false := by decide) :
    PE X (.Call (.Name x p) [e] [] pos) (fun σ H Q => te σ H fun v H1 => sp [v] H1 Q E0) := by
  constructor
  intro pins s σ H Q I h
  refine wpAny_Call_Name_kw (ld_glob I hg hm (PySem.W.callWith_K (h₀ := X.base) I.ok.mod.kin hk (thn ((pa_cons he pa_nil hs).run pos pins s σ H (oneAG fun v H1 => sp [v] H1 Q E0) I h) ?_) hs hpl) hdb)
  rintro us s1 ⟨vs, H1, I1, r, q0⟩
  obtain ⟨v, rfl, q⟩ := oneAG_of q0
  have b := hb s1 us I1.kIn (by rw [List.append_nil, ← r.length]; rfl)
  rw [List.append_nil] at b
  refine ⟨I1.kIn, wpAny_call (codeAny_mono (F.does X.A X.stack s1 H1 ⟨us, []⟩ us [v] Q gd hr I1.env0 b r q) ?_)⟩
  rintro (z | (_ | _ | _ | u)) s2 hz
  · exact hz.elim
  · exact hz.elim
  · exact hz.elim
  · exact hz.elim
  · exact I1.after hz
end
end Nv
set_option Elab.async false
set_option linter.all false
set_option maxRecDepth 100000
set_option maxHeartbeats 16000000
/-! _law_shown. -/
namespace Y1
open PySem PySem.Spec PyProof.Rows L2 Nv
mutual
/-- its text may be laid -/
def okS : PyData → Prop
  | .str x => PyData.strOk (PyData.str x).shown = true
  | .list l => okSs l
  | .tuple l => okSs l
  | .dict l => l = []
  | .none => True
  | .bool _ => True
  | .int _ => True
def okSs : List PyData → Prop
  | [] => True
  | d :: r => okS d ∧ okSs r
end
mutual
theorem ok_shown : ∀ d : PyData, okS d → PyData.strOk d.shown = true
  | .none, _ => by decide +kernel
  | .bool b, _ => by cases b <;> decide +kernel
  | .int i, _ => ok_int i
  | .str x, h => h
  | .list l, h => ok_list (oks_shown l (by simpa [okS] using h))
  | .tuple l, h => ok_tuple (oks_shown l (by simpa [okS] using h))
  | .dict l, h => by
    have e : l = [] := by simpa [okS] using h
    subst e
    decide +kernel
theorem oks_shown : ∀ l : List PyData, okSs l → ∀ t ∈ PyData.shownAll l, PyData.strOk t = true
  | [], _ => fun t ht => by cases ht
  | d :: r, h => fun t ht => by
    have h : okS d ∧ okSs r := by simpa [okSs] using h
    rcases List.mem_cons.mp (show t ∈ d.shown :: PyData.shownAll r from ht) with e | m
    · rw [e]
      exact ok_shown d h.1
    · exact oks_shown r h.2 t m
end
theorem okSs_all : ∀ {l : List PyData}, (∀ d ∈ l, okS d) → okSs l
  | [], _ => by simp [okSs]
  | d :: r, h => by
    have := okSs_all (l := r) fun x hx => h x (List.mem_cons_of_mem _ hx)
    simpa [okSs] using And.intro (h d List.mem_cons_self) this
/-- what may be asked whether it is a walk, and shown -/
structure Itm (d : PyData) : Prop where
  ok : okD d
  dp : d.depth ≤ 5
  cp : cap d ≤ 10000
  dic : d.hasDict = true → d = .dict []
  ask : askW d
  txt : okS d
theorem Itm.nice {d : PyData} (h : Itm d) : Nice d := ⟨shows_of d h.ok, Nat.le_trans h.dp (by decide), Nat.le_trans (shown_le d h.ok) (Nat.le_trans h.cp (by decide)), h.dic⟩
/-- what is shown, and how -/
inductive Shw (CF : Addr) (H : Hp) : V → Str → Prop
  | dat {v : V} {d : PyData} (h : DV H v d) (n : Nice d) (t : okS d) : Shw CF H v d.shown
  | fig {x : Addr} {es : List Eg} (h : FigE CF H x es) (l : es.length ≤ 400) : Shw CF H (.ref x) (("figure " : Str) ++ txtE es)
theorem Shw.more {CF : Addr} {H H' : Hp} {v : V} {z : Str} (s : Same H H') (h : Shw CF H v z) : Shw CF H' v z := by
  cases h with
  | dat h n t => exact .dat (h.more s) n t
  | fig h l => exact .fig (h.more s) l
def spShn (CF : Addr) : Sp := fun vs H Q _ => ∃ v z, vs = [v] ∧ Shw CF H v z ∧ ∀ H', Same H H' → Q (.str z) H'
structure Trp (mg : Str → Option Value) : Prop where
  rep : mg "repr" = none
theorem tyN_mem (d : PyData) : tyN d ∈ tyNs := by cases d <;> simp [tyN, tyNs]
theorem figE_at {CF : Addr} {H : Hp} {x : Addr} {es : List Eg} (h : FigE CF H x es) : ∃ dx tt hh xs, H x = some (.ins CF dx (figFs tt hh)) ∧ H tt = some (.tup xs) ∧ DVs H xs (es.map eP) ∧ ∀ e ∈ es, edB e = true := by
  obtain ⟨kvs, ⟨dx, tt, hh, h1, h2, h3⟩, en, as, ed⟩ := h
  exact ⟨dx, tt, hh, _, h1, h2, ent_vals en, ed⟩
section
variable {P : Program} {w : World} {K : PySem.W.Frag} {mg : Str → Option Value} {base : Heap} {CF CH : Addr}
theorem scShn : FnScope ["_law_value"] ["_law_value"] (defScope (top 41)) := ⟨rfl, rfl, rfl, by decide +kernel, rfl, by decide +kernel, by decide +kernel⟩
theorem figE_ty {Z : Kf K mg CF CH} {H : Hp} {x : Addr} {es : List Eg} (h : FigE CF H x es) : TyX K H (.ref x) (.ref CF) := by
  obtain ⟨dx, tt, hh, xs, h1, _⟩ := figE_at h
  exact .base (.ins h1 Z.cls Z.cc Z.gs Z.tk Z.ob)
theorem ok_shn {f : Addr} {fd : FuncData} (F : Fun K "_law_shown" "_law_shown" (top 41) f fd) (T : Ta mg) (R : Trp mg) (Z : Kf K mg CF CH) : FnAG P w K mg base 1 f fd ["_law_value"] (spShn CF) := by
  refine FnAG.made F scShn (fun vs H Q E h => by obtain ⟨v, z, rfl, _⟩ := h; rfl) (fun cdv A outer s H vs Q gd hr h => ?_)
  obtain ⟨v, z, rfl, sh, q⟩ := h
  have hu : (A.deeper (envOfC "_law_shown" (defScope (top 41)) s.heap.objs.size f cdv)).units + 100 < cLine := by
    have := hr.un
    omega
  refine ⟨_, pss_one (ps_ret (pe_ifExp (pt_val (pe_callB call_isi (by rfl) T.isi (by decide +kernel) (pa_cons (pv 0) (pa_cons (pe_glob (v := .ref CF) rfl Z.gF rfl) pa_nil)))) (pe_op op_add_str pe_str (pe_callB (call_reprD gd hu) (by rfl) R.rep (by decide +kernel) (pa_cons (pe_fld (pv 0) (by rfl)) pa_nil))) (pe_callB (call_reprD gd hu) (by rfl) R.rep (by decide +kernel) (pa_cons (pv 0) pa_nil)))), ?_⟩
  cases sh with
  | @dat _ d dv n t => exact ⟨_, rfl, _, .ref CF, .type (tyN d), .ref CF, false, rfl, .own _, ty_of dv, Z.figT _ (tyN_mem d), _, rfl, ifF rfl ⟨_, rfl, v, d, rfl, dv, n, q H (same0 H)⟩⟩
  | @fig x es f l =>
    obtain ⟨dx, tt, hh, xs, h1, h2, dvs, ed⟩ := figE_at f
    have nice := nice_es ed (by omega)
    have ln : (PyData.tuple (es.map eP)).shown.length ≤ caps (es.map eP) + 3 := shown_le _ (by
      have o : okDs (es.map eP) := okDs_all fun d hd => by
        obtain ⟨e, he, rfl⟩ := List.mem_map.mp hd
        exact eP_ok (ed e he)
      simpa [okD] using o)
    rw [caps_es] at ln
    refine ⟨_, rfl, _, .ref CF, .ref CF, .ref CF, true, rfl, .own _, figE_ty (Z := Z) f, Z.figF, _, rfl, ifT rfl ?_⟩
    refine ⟨_, rfl, x, CF, dx, _, .ref tt, rfl, h1, Z.cls, Z.nE, rfl, .ref tt, .tuple (es.map eP), rfl, .tup h2 dvs, nice, _, _, rfl, rfl, ?_, q H (same0 H)⟩
    exact Nat.le_trans (show _ ≤ 7 + 100000 from Nat.add_le_add (Nat.le_of_eq rfl) (by omega)) (by decide)
end
end Y1
set_option Elab.async false
set_option linter.all false
set_option maxRecDepth 100000
set_option maxHeartbeats 16000000
/-! _law_due. -/
namespace Y1
open PySem PySem.Spec PyProof.Rows L2 Nv
abbrev dueN : List Str := ["_law_edges_here", "_law_walks", "_law_bad", "_law_used", "_law_at", "_law_one", "_law_other", "_law_edge", "_law_walk"]
structure Trg (mg : Str → Option Value) : Prop where
  rng : mg "range" = none
structure Tsr (mg : Str → Option Value) : Prop where
  srt : mg "sorted" = none
/-- what is told of walks -/
def ansK (es : List Eg) (ds : List PyData) : Str × Str := match ds.find? fun d => !walkB d with
  | some d => ("walk", d.shown)
  | none => ("told", (optD (faultO es ds)).shown)
/-- what may be handed -/
inductive Hand (K : PySem.W.Frag) (CF : Addr) (es : List Eg) (H : Hp) : V → Str × Str → Prop
  | odd {v : V} {t : Value} {z : Str} (ty : TyX K H v t) (no : PySem.W.kitAny K t seqs = some false) (sh : Shw CF H v z) : Hand K CF es H v ("walks", z)
  | seq {a : Addr} {o : HO} {t : Value} {xs : List V} {ds : List PyData} (ty : TyX K H (.ref a) t) (yes : PySem.W.kitAny K t seqs = some true) (h : H a = some o) (ho : o = .lst xs ∨ o = .tup xs) (dv : DVs H xs ds) (ask : ∀ d ∈ ds, askW d) (it : ∀ d ∈ ds, walkB d = false → Itm d) (l : ds.length ≤ 500) : Hand K CF es H (.ref a) (ansK es ds)
def spDue (K : PySem.W.Frag) (CF : Addr) : Sp := fun vs H Q _ => ∃ A es wv, vs = [.ref A, wv] ∧ LE H A es ∧ ∃ a, Hand K CF es H wv a ∧ ∀ L H', Same H H' → H' L = some (.lst [.str a.1, .str a.2]) → Q (.ref L) H'
theorem alike_ps (es : List Pt) : PySem.W.AllAlike (es.map ptP) := .of fun a b => by simp [ptP, PySem.W.alike, PySem.W.alikeAll]
theorem sortable_ps (es : List Pt) : PySem.W.Sortable (es.map ptP) := .tuples fun b => ⟨_, _, rfl⟩
theorem ptLe (p q : Pt) : PySem.W.dataLe false ptP p q = !decide (q.1 < p.1 ∨ (q.1 = p.1 ∧ q.2 < p.2)) := by
  show (!PySem.W.dataLt (ptP q) (ptP p)) = _
  rw [ptP, ptP, PySem.W.dataLt_ii]
theorem sort2 (le : Pt → Pt → Bool) (p q : Pt) : [p, q].mergeSort le = if le p q then [p, q] else [q, p] := by
  simp [List.mergeSort, List.MergeSort.Internal.splitInTwo, List.merge]
theorem sort_ed (p q : Pt) : PyData.tuple (([p, q].mergeSort (PySem.W.dataLe false ptP)).map ptP) = eP (edOf p q) := by
  rw [sort2, ptLe]
  unfold edOf
  by_cases c : q.1 < p.1 ∨ (q.1 = p.1 ∧ q.2 < p.2)
  · rw [decide_eq_true c, if_pos c]
    rfl
  · rw [decide_eq_false c, if_neg c]
    rfl
/-- [x for x in xs if pr(x)], xs a list or a tuple of any data -/
theorem lc_selS {σ : L2.St} {H : Hp} {Q : VK} {i : Nat} {tl : TE} {tt : TT} {a : Addr} {o : HO} {xs : List V} {ds : List PyData} (pr : PyData → Bool) (li : i < σ.length) (hl : ∀ R : VK, R (.ref a) H → tl σ H R) (ha : H a = some o) (ho : o = .lst xs ∨ o = .tup xs) (dv : DVs H xs ds) (small : ds.length ≤ 100000)
    (step : ∀ (H' : Hp) (x : V) (d : PyData), Same H H' → d ∈ ds → DV H' x d → MakT ((wipe σ [i]).set i (some x)) H' tt (pr d))
    (q : ∀ D ys H', Same H H' → H' D = some (.lst ys) → DVs H ys (ds.filter pr) → Q (.ref D) H') : tLc (iSeqS tl) (gName i) tt (tVar i) [i] σ H Q := by
  refine hl _ ⟨a, o, xs, rfl, ha, ho, fun J EJ D nD => ?_⟩
  have ln := dv.length
  have nDH : ∀ b o, H b = some o → b ≠ D := fun b o e z => by rw [z, nD] at e; cases e
  have li' : i < (wipe σ [i]).length := by rw [L2.wipe_length]; exact li
  let Pv : Nat → Hp → Prop := fun k H' => Same H H' ∧ ∃ acc, H' D = some (.lst acc) ∧ DVs H acc ((ds.take k).filter pr)
  refine ⟨fun k m H' => m = xs.length - k ∧ k ≤ xs.length ∧ Pv k H', ⟨xs.length, by simp, Nat.zero_le _, fun b o e => stay e nD, [], upd_same, .nil⟩, ?_⟩
  rintro k m H' ⟨rfl, hk, sm, acc, hD, dacc⟩
  by_cases hlt : k < xs.length
  · refine .inr ⟨EJ.go k H' xs[k] (sm _ _ ha) (List.getElem?_eq_getElem hlt), Pv (k + 1), fun H'' p' => ⟨xs.length - (k + 1), by omega, rfl, hlt, p'⟩, fun v H'' y => ?_⟩
    obtain ⟨hv, rfl⟩ := EJ.yl k H' v H'' (sm _ _ ha) y
    obtain ⟨d, hd, dvx⟩ := dv.at k v hv
    have st : ds.take (k + 1) = ds.take k ++ [d] := by rw [List.take_add_one, hd]; rfl
    refine ⟨?_, step H'' v d sm (List.mem_of_getElem? hd) (dvx.more sm) H'' _ (same0 _) fun H3 s3 => ?_⟩
    · show ((σ.set i none).set i _).set i none = σ.set i none
      rw [List.set_set, List.set_set]
    · by_cases m : pr d = true
      · rw [if_pos m]
        refine ⟨v, List.getElem?_set_self li', acc, s3 _ _ hD, ?_, fun b o e => by rw [upd_ne (nDH b o e)]; exact s3 _ _ (sm b o e), acc ++ [v], upd_same, ?_⟩
        · rw [dacc.length]
          have l1 := List.length_filter_le pr (ds.take k)
          rw [List.length_take] at l1
          exact Nat.lt_of_le_of_lt (show _ ≤ 100000 by omega) (by decide)
        · rw [st, List.filter_append, List.filter_cons, if_pos m]
          exact dvs_app dacc (.cons dvx .nil)
      · rw [if_neg m]
        refine ⟨same_tr sm s3, acc, s3 _ _ hD, ?_⟩
        rw [st, List.filter_append, List.filter_cons, if_neg m, List.filter_nil, List.append_nil]
        exact dacc
  · have e : k = xs.length := by omega
    subst e
    refine .inl ⟨EJ.st _ H' (sm _ _ ha) (Nat.le_refl _), ?_⟩
    rw [ln, List.take_length] at dacc
    exact q D acc H' sm hD dacc
theorem find_filter {α : Type} (p : α → Bool) : ∀ l : List α, l.find? p = (l.filter p)[0]?
  | [] => rfl
  | x :: r => by
    rw [List.find?_cons, List.filter_cons]
    cases p x with
    | true => rfl
    | false => exact find_filter p r
section
variable {P : Program} {w : World} {K : PySem.W.Frag} {mg : Str → Option Value} {base : Heap} {CF CH : Addr}
theorem scDue : FnScope dueN ["_law_edges_here", "_law_walks"] (defScope (top 42)) := ⟨rfl, rfl, rfl, by decide +kernel, rfl, by decide +kernel, by decide +kernel⟩
theorem ok_due {f : Addr} {fd : FuncData} (F : Fun K "_law_due" "_law_due" (top 42) f fd) (T : Ta mg) (TL : mg "list" = none) (R : Trp mg) (TR : Trg mg) (TS : Tsr mg) (TZ : Tz mg)
    {fS : Addr} {fdS : FuncData} (GS : FnAG P w K mg base 1 fS fdS ["_law_value"] (spShn CF)) (AS : At K mg "_law_shown" fS fdS ["_law_value"])
    {fW : Addr} {fdW : FuncData} (GW : FnOk P w K mg base CX0 1 fW fdW ["_law_value"] spLW) (AW : At K mg "_law_is_walk" fW fdW ["_law_value"]) : FnG P w K mg base 3 f fd ["_law_edges_here", "_law_walks"] (spDue K CF) := by
  refine FnG.made F scDue (fun vs H Q E h => by obtain ⟨A', es, wv, rfl, _⟩ := h; rfl) (fun cdv A outer s H vs Q E gd hr h => ?_)
  obtain ⟨Ae, es, wv, rfl, le, arg⟩ := h
  have hu : (A.deeper (envOfC "_law_due" (defScope (top 42)) s.heap.objs.size f cdv)).units + 100 < cLine := by
    have := hr.un
    omega
  have hu65 : (A.deeper (envOfC "_law_due" (defScope (top 42)) s.heap.objs.size f cdv)).units + 65 < cLine := by omega
  have hu0 : (A.deeper (envOfC "_law_due" (defScope (top 42)) s.heap.objs.size f cdv)).units < cLine := by omega
  refine ⟨_, (pss_cons (ps_if (pt_not (pt_val (pe_callB call_isiT (by rfl) T.isi (by decide +kernel) (pa_cons (pv 1) (pa_cons (pe_tup (pa_cons (pe_bltn (v := .ty "list") (u := .type "list") (by rfl) TL (by decide +kernel) rfl) (pa_cons (pe_bltn (v := .ty "tuple") (u := .type "tuple") (by rfl) T.tup (by decide +kernel) rfl) pa_nil))) pa_nil))))) (pss_one (ps_ret (pe_lst (pa_cons pe_str (pa_cons (pe_callAG GS gd (L2H.roomH_of (hr.mono (by decide))) rfl AS.g AS.k AS.b (pv 1)) pa_nil))))) pss_nil)
    (pss_cons (ps_setLc (i := 2) (own := [("_law_walk", 8)]) (g := gName 8) (tt := (tNot (tB (tCall spLW [] E0 (tCons (tVar 8) tNil))))) (te := (tVar 8)) rfl scDue.nd rfl rfl (sw_true rfl rfl rfl (by decide +kernel)) (pi_seqS (pv 1)) (blkOk_by (N := dueN) (sc := defScope (top 42)) (by decide +kernel)) (fun _ _ _ _ _ => (pg_name (i := 8) scDue.nd rfl (by first | exact Or.inl rfl | exact Or.inr rfl))) (fun _ _ _ _ _ => pts_one (pt_not (pt_val (pe_call GW (hr.mono (by decide)) rfl AW.g AW.k AW.b .nil pass0 (pa_cons (pv 8) pa_nil))))) (fun _ _ _ _ _ => (pv 8)))
    (pss_cons (ps_if (pt_cmpR (op_neNil hu0) (pv 2) (pe_lst pa_nil) (by rfl)) (pss_one (ps_ret (pe_lst (pa_cons pe_str (pa_cons (pe_callB (call_reprD gd hu) (by rfl) R.rep (by decide +kernel) (pa_cons (pe_ix (r := rIxL K) (by exact ix_list) (pv 2) pe_int (fun _ _ => rfl)) pa_nil)) pa_nil))))) pss_nil)
    (pss_cons (ps_set (i := 3) scDue.nd rfl (by first | exact Or.inl rfl | exact Or.inr rfl) (pe_lst pa_nil))
    (pss_cons (ps_for PassesOwn.never rfl (pi_range1 rfl TR.rng (pa_cons (pe_callB call_len_seq (by rfl) T.len PySem.boot_len (pa_cons (pv 1) pa_nil)) pa_nil)) (pg_name (i := 4) scDue.nd rfl (by first | exact Or.inl rfl | exact Or.inr rfl)) (pss_one (ps_for PassesOwn.never rfl (RZ.pi_zipA (by rfl) TZ.zip (pa_cons (pe_ix (by exact ix_seq) (pv 1) (pv 4) (fun _ _ => rfl)) (pa_cons (pe_slice sl_tup (pe_ix (by exact ix_seq) (pv 1) (pv 4) (fun _ _ => rfl)) (po_some pe_int) po_none) pa_nil))) (pg_tup rfl (pgs_cons (pg_name (i := 5) scDue.nd rfl (by first | exact Or.inl rfl | exact Or.inr rfl)) (pgs_cons (pg_name (i := 6) scDue.nd rfl (by first | exact Or.inl rfl | exact Or.inr rfl)) pgs_nil))) (pss_cons (ps_set (i := 7) scDue.nd rfl (by first | exact Or.inl rfl | exact Or.inr rfl) (pe_callTy call_tuple_of (by rfl) T.tup (by decide +kernel) (pa_cons (pe_callB (call_sortDat ptP hu) (by rfl) TS.srt (by decide +kernel) (pa_cons (pe_lst (pa_cons (pv 5) (pa_cons (pv 6) pa_nil))) pa_nil)) pa_nil)))
    (pss_cons (ps_if (PW.pt (pw_or (pt_cmpR (op_notInD hu65) (pv 7) (pv 0) (by rfl)) (pw_or1 (pt_cmpR (op_inD hu65) (pv 7) (pv 3) (by rfl))))) (pss_one (ps_ret (pe_lst (pa_cons pe_str (pa_cons (pe_callB (call_reprD gd hu) (by rfl) R.rep (by decide +kernel) (pa_cons (pv 4) pa_nil)) pa_nil))))) pss_nil)
    (pss_one (ps_expr (pe_bm PySem.F.plainAttrs_list PySem.F.slot_list_append PySem.F.type_list_append mt_append (pv 3) (pa_cons (pv 7) pa_nil)))))))))
    (pss_one (ps_ret (pe_lst (pa_cons pe_str (pa_cons (pe_callB (call_reprD gd hu) (by rfl) R.rep (by decide +kernel) (pa_cons (pe_ifExp (pt_cmpR op_eq (pe_callB call_len_seq (by rfl) T.len PySem.boot_len (pa_cons (pv 3) pa_nil)) (pe_callB call_len_seq (by rfl) T.len PySem.boot_len (pa_cons (pv 0) pa_nil)) (nomark _)) pe_non (pe_callB call_len_seq (by rfl) T.len PySem.boot_len (pa_cons (pv 1) pa_nil))) pa_nil)) pa_nil)))))))))), ?_⟩
  obtain ⟨ans, hand, q⟩ := arg
  cases hand with
  | @odd _ t z ty no sh =>
    refine ⟨_, rfl, (by show 2 ≤ sizeLine; decide), fun tp ntp => ⟨wv, tp, _, t, seqs, false, rfl, upd_same, .cons (.ty _) (.cons (.ty _) .nil), TyX.more ty fun b o e => stay e ntp, no, _, rfl, ?_⟩⟩
    have s1 : Same H (upd H tp (.tup [.ty "list", .ty "tuple"])) := fun b o e => stay e ntp
    generalize upd H tp (.tup [.ty "list", .ty "tuple"]) = H1 at s1
    exact ifT rfl (ret_i (lst_i (cons_i (c_i (cons_i ⟨_, rfl, wv, z, rfl, sh.more s1, fun H2 s2 => nil_i ⟨(by show 2 ≤ sizeLine; decide), fun L nL => q L _ (fun b o e => stay (s2 _ _ (s1 _ _ e)) nL) upd_same⟩⟩)))))
  | @seq a o t xs ds ty yes h ho dv ask it l =>
    refine ⟨_, rfl, (by show 2 ≤ sizeLine; decide), fun tp ntp => ⟨.ref a, tp, _, t, seqs, true, rfl, upd_same, .cons (.ty _) (.cons (.ty _) .nil), TyX.more ty fun b o e => stay e ntp, yes, _, rfl, ?_⟩⟩
    have s1 : Same H (upd H tp (.tup [.ty "list", .ty "tuple"])) := fun b o e => stay e ntp
    generalize upd H tp (.tup [.ty "list", .ty "tuple"]) = H1 at s1
    refine ifF rfl (next_i ?_)
    dsimp only
    have ln := dv.length
    refine seq_i (asg_i ?_)
    refine lc_selS (i := 8) (fun d => !walkB d) (by show 8 < 9; decide) (fun R r => ⟨_, rfl, r⟩) (s1 _ _ h) ho (dv.more s1) (by omega) (fun H' x d s' md dx => ?_) fun D ys H2 s2 hD dys => ?_
    · exact mkt_not (mkt_tB fun H3 R s3 r => ⟨_, rfl, x, d, rfl, dx.more s3, ask d md, fun H4 s4 => r _ _ s4 (.bl _)⟩)
    dsimp only [gName]
    have s02 : Same H H2 := same_tr s1 s2
    have dys2 := dys.more s2
    refine seq_i (ifs_i (test_i (op_i ⟨_, rfl, lst_i (nil_i ⟨Nat.zero_le _, fun Z nZ => ⟨D, Z, ys, rfl, rfl, SqL.of (stay hD nZ), SqL.of upd_same, _, rfl, ?_⟩⟩)⟩)))
    have s3 : Same H2 (upd H2 Z (.lst [])) := fun b o e => stay e nZ
    generalize upd H2 Z (.lst []) = H3 at s3
    have s03 := same_tr s02 s3
    have hD3 := s3 _ _ hD
    have dys3 := dys2.more s3
    cases e : ys with
    | cons y0 yr =>
      subst e
      refine ifT rfl (ret_i (lst_i (cons_i (c_i (cons_i (cb_i (cons_i ⟨_, rfl, D, _, 0, y0, rfl, rfl, SqL.of hD3, atI_nat (j := 0) rfl, nil_i ?_⟩)))))))
      have f0 := find_filter (fun d => !walkB d) ds
      generalize ds.filter (fun d => !walkB d) = bs at dys3 f0 dys
      cases dys3 with
      | @cons _ _ d0 dr h0 r0 =>
        have f1 : ds.find? (fun d => !walkB d) = some d0 := f0
        have md := List.mem_of_find?_eq_some f1
        have nw : walkB d0 = false := by
          have := List.find?_some f1
          simpa using this
        have ea : ansK es ds = (("walk" : Str), d0.shown) := by
          unfold ansK
          rw [f1]
        rw [ea] at q
        exact ⟨y0, d0, rfl, h0, (it d0 md nw).nice, nil_i ⟨(by show 2 ≤ sizeLine; decide), fun L nL => q L _ (fun b o e => stay (s03 _ _ e) nL) upd_same⟩⟩
    | nil =>
      subst e
      refine ifF rfl (next_i ?_)
      have fe : ds.filter (fun d => !walkB d) = [] := by
        generalize ds.filter (fun d => !walkB d) = bs at dys3
        cases dys3
        rfl
      have alw : ∀ d ∈ ds, walkB d = true := fun d hd => by
        have := List.filter_eq_nil_iff.mp fe d hd
        simpa using this
      have ea : ansK es ds = (("told" : Str), (optD (faultO es ds)).shown) := by
        unfold ansK
        rw [find_filter, fe]
        rfl
      rw [ea] at q
      have le3 := le.more s03
      have dv3 := dv.more s03
      have h3 := s03 _ _ h
      clear dys dys2 dys3 fe ea ask it hD
      dsimp only
      refine seq_i (asg_i (lst_i (nil_i ⟨Nat.zero_le _, fun U nU => ?_⟩)))
      dsimp only [gName]
      have hU : upd H3 U (.lst []) U = some (.lst []) := upd_same
      have s4 : Same H3 (upd H3 U (.lst [])) := fun b o e => stay e nU
      generalize upd H3 U (.lst []) = H4 at hU s4
      have edE : ∀ e ∈ es, edB e = true := le3.2.2.1
      have l400 : es.length ≤ 400 := le3.2.2.2
      have seqA : ∀ {H' : Hp}, Same H3 H' → SqL K H' a xs ∨ SqT K H' a xs := fun s => by
        rcases ho with rfl | rfl
        · exact .inl (SqL.of (s _ _ h3))
        · exact .inr (SqT.of (s _ _ h3))
      let Pv : Nat → L2.St → Hp → Prop := fun i σ H' => ∃ (o4 o5 o6 o7 o8 : Option V) (u : List Eg) (us : List V), σ = [some (.ref Ae), some (.ref a), some (.ref D), some (.ref U), o4, o5, o6, o7, o8] ∧ Same H3 H' ∧ H' U = some (.lst us) ∧ DVs H' us (u.map eP) ∧ (∀ e ∈ u, e ∈ es) ∧ u.Nodup ∧ runW es (ds.drop i) i u = runW es ds 0 []
      refine rest2 (Pv xs.length) (fun X hX => ⟨_, rfl, a, xs, rfl, seqA s4, _, rfl, (by omega), (by omega), ?_⟩) ?_
      · rw [show ((xs.length : Int)).toNat = xs.length by omega]
        refine for_range (lo := 0) Pv ⟨none, none, none, none, none, [], [], rfl, s4, hU, .nil, (fun e (he : e ∈ ([] : List Eg)) => by cases he), List.nodup_nil, rfl⟩ ?_ (fun σ H' z => hX σ H' z)
        rintro i σ H5 hi ⟨o4, o5, o6, o7, o8, u, us, rfl, s5, hU5, du, su, nu, run⟩
        obtain ⟨d, hd, dw⟩ := dv3.at i xs[i] (List.getElem?_eq_getElem hi)
        have wk := alw d (List.mem_of_getElem? hd)
        obtain ⟨dw', rfl⟩ : ∃ dw', d = .tuple dw' := by
          cases d with
          | tuple dw' => exact ⟨dw', rfl⟩
          | _ => cases wk
        obtain ⟨aw, zs, ez, haw, dz⟩ := dv_tup dw
        have lz := dz.length
        have two : 2 ≤ zs.length := by
          have h : (decide (2 ≤ dw'.length) && (dw'.all ptB && (nbs dw').all id)) = true := wk
          rw [Bool.and_eq_true] at h
          have := of_decide_eq_true h.1
          omega
        have dsd : ds.drop i = .tuple dw' :: ds.drop (i + 1) := by
          rw [List.drop_eq_getElem_cons (show i < ds.length by omega)]
          congr 1
          exact (List.getElem?_eq_some_iff.mp hd).2
        rw [dsd, runW_cons] at run
        dsimp only [gName]
        have i0 : (0 : Int) + (i : Int) = ((i : Nat) : Int) := by omega
        have ixA : ∀ {H' : Hp} {R : VK}, Same H3 H' → R (.ref aw) H' → rIx K (.ref a) (.int (0 + (i : Int))) H' R := fun s r => by
          have at_ : atI xs (0 + (i : Int)) = some (.ref aw) := by
            rw [i0, ← ez]
            exact atI_nat (List.getElem?_eq_getElem hi)
          rcases ho with rfl | rfl
          · exact .inl ⟨a, xs, _, .ref aw, rfl, rfl, SqL.of (s _ _ h3), at_, r⟩
          · exact .inr (.inl ⟨a, xs, _, .ref aw, rfl, rfl, SqT.of (s _ _ h3), at_, r⟩)
        obtain ⟨ec2, en2⟩ := cut_tail zs two
        refine ⟨_, rfl, _, rfl, ixA s5 ⟨_, rfl, _, rfl, ixA s5 ⟨1, rfl, aw, zs, rfl, SqT.of (s5 _ _ haw), en2, fun p2 n2 => ?_⟩⟩⟩
        rw [ec2]
        have s6 : Same H5 (upd H5 p2 (.tup (zs.drop 1))) := fun b o e => stay e n2
        have hp2 : upd H5 p2 (.tup (zs.drop 1)) p2 = some (.tup (zs.drop 1)) := upd_same
        have hU6 := s6 _ _ hU5
        have du6 := du.more s6
        have s36 := same_tr s5 s6
        generalize upd H5 p2 (.tup (zs.drop 1)) = H6 at s6 hp2 hU6 du6 s36
        refine ⟨aw, p2, zs, _, rfl, .inr ⟨SqT.of (s36 _ _ haw), SqT.of hp2, ?_⟩⟩
        have ltd : (zs.drop 1).length = zs.length - 1 := by rw [List.length_drop]
        refine for_at (n := zs.length - 1) (fun j σ H' => ∃ (o5 o6 o7 o8 : Option V) (u : List Eg) (us : List V), σ = [some (.ref Ae), some (.ref a), some (.ref D), some (.ref U), some (.int (0 + (i : Int))), o5, o6, o7, o8] ∧ Same H3 H' ∧ H' p2 = some (.tup (zs.drop 1)) ∧ H' U = some (.lst us) ∧ DVs H' us (u.map eP) ∧ (∀ e ∈ u, e ∈ es) ∧ u.Nodup ∧ goW es ((eds dw').drop j) u i (ds.drop (i + 1)) = runW es ds 0 [])
          ⟨o5, o6, o7, o8, u, us, rfl, s36, hp2, hU6, du6, su, nu, run⟩ ?_ ?_ ?_ ?_
        · rintro j σ H' hj ⟨o5, o6, o7, o8, u, us, rfl, s7, q2, _⟩
          exact ⟨_, _, zs[j]'(by omega), (zs.drop 1)[j]'(by omega), SqT.of (s7 _ _ haw), SqT.of q2, List.getElem?_eq_getElem _, List.getElem?_eq_getElem _⟩
        · rintro σ H' ⟨o5, o6, o7, o8, u, us, rfl, s7, q2, _⟩
          exact ⟨_, _, SqT.of (s7 _ _ haw), SqT.of q2, Or.inr (by omega)⟩
        · rintro j v σ H' H'' hj ⟨o5, o6, o7, o8, u, us, rfl, s7, q2, hU7, du7, su, nu, run⟩ y
          obtain ⟨T2, v1, v2, rfl, nT2, rfl, f1, f2⟩ := y
          have h1 := f1 _ (SqT.of (s7 _ _ haw))
          have h2 := f2 _ (SqT.of q2)
          rw [List.getElem?_drop, Nat.add_comm] at h2
          obtain ⟨d1, hd1, dv1⟩ := dz.at j v1 h1
          obtain ⟨d2, hd2, dv2⟩ := dz.at (j + 1) v2 h2
          obtain ⟨p, q', rfl, rfl, ep, eq, onp, onq, nb⟩ := walk_at wk hd1 hd2
          obtain ⟨edq, enq⟩ := step_edge onp onq nb
          rw [eds_at hd1 hd2, ep, eq] at run
          refine ⟨T2, _, rfl, SqT.of upd_same, rfl, _, _, rfl, _, _, rfl, rfl, ?_⟩
          have s78 : Same H' (upd H' T2 (.tup [v1, v2])) := fun b o e => stay e nT2
          have s8 := same_tr s7 s78
          have q28 := s78 _ _ q2
          have hU8 := s78 _ _ hU7
          have du8 := du7.more s78
          generalize upd H' T2 (.tup [v1, v2]) = H8 at s78 s8 q28 hU8 du8
          dsimp only [gName]
          have s08 : Same H H8 := same_tr s03 s8
          -- the edge
          refine seq_i (asg_i (cb_i (cons_i (cb_i (cons_i (lst_i (cons_i ⟨_, rfl, cons_i ⟨_, rfl, nil_i ⟨(by show 2 ≤ sizeLine; decide), fun L1 nL1 => nil_i ?_⟩⟩⟩)))))))
          have s89 : Same H8 (upd H8 L1 (.lst [v1, v2])) := fun b o e => stay e nL1
          have hL1 : upd H8 L1 (.lst [v1, v2]) L1 = some (.lst [v1, v2]) := upd_same
          have dvL : DVs (upd H8 L1 (.lst [v1, v2])) [v1, v2] ([p, q'].map ptP) := .cons ((dv1.more s8).more s89) (.cons ((dv2.more s8).more s89) .nil)
          refine ⟨L1, [v1, v2], [p, q'], rfl, SqL.of hL1, dvL, alike_ps _, sortable_ps _, (by show 2 ≤ 1000; decide), fun b hb => (by show 1 ≤ 60; decide), fun ws L2' dws nL2 => nil_i ?_⟩
          have s9 : Same (upd H8 L1 (.lst [v1, v2])) (upd (upd H8 L1 (.lst [v1, v2])) L2' (.lst ws)) := fun b o e => stay e nL2
          refine ⟨L2', ws, rfl, .inl ⟨SqL.of upd_same, fun t nt => ?_⟩⟩
          have s10 : Same (upd (upd H8 L1 (.lst [v1, v2])) L2' (.lst ws)) (upd (upd (upd H8 L1 (.lst [v1, v2])) L2' (.lst ws)) t (.tup ws)) := fun b o e => stay e nt
          have det : DV (upd (upd (upd H8 L1 (.lst [v1, v2])) L2' (.lst ws)) t (.tup ws)) (.ref t) (eP (edOf p q')) := by
            rw [← sort_ed]
            exact .tup upd_same ((dws.more s9).more s10)
          have s8a : Same H8 (upd (upd (upd H8 L1 (.lst [v1, v2])) L2' (.lst ws)) t (.tup ws)) := same_tr s89 (same_tr s9 s10)
          generalize upd (upd (upd H8 L1 (.lst [v1, v2])) L2' (.lst ws)) t (.tup ws) = Ha at det s8a
          generalize edOf p q' = ee at edq enq run det
          clear s89 s9 s10 hL1 dvL dws nL2 nL1
          have s3a := same_tr s8 s8a
          have hUa := s8a _ _ hU8
          have dua := du8.more s8a
          have q2a := s8a _ _ q28
          dsimp only [gName]
          have stop : ¬ (ee ∈ es ∧ ee ∉ u) → runW es ds 0 [] = .inl i := fun h => by
            rw [goW_no h] at run
            exact run.symm
          have bad : runW es ds 0 [] = .inl i → ∀ {Hx : Hp}, Same Ha Hx → (tRet (tLst (tCons (tC (V.str "told")) (tCons (tCB (fun xs H Q => ∃ v d, xs = [v] ∧ DV H v d ∧ Nice d ∧ Q (.str d.shown) H) (tCons (tVar 4) tNil)) tNil)))) { nx := fun _ _ => False, rt := Q } [some (V.ref Ae), some (.ref a), some (.ref D), some (.ref U), some (.int (0 + (i : Int))), some v1, some v2, some (.ref t), o8] Hx := fun h {Hx} sx => by
            refine ret_i (lst_i (cons_i (c_i (cons_i (cb_i (cons_i ⟨_, rfl, nil_i ⟨_, .int i, rfl, ?_, nice_n (by omega), nil_i ⟨(by show 2 ≤ sizeLine; decide), fun L nL => q L _ (fun b o e => stay (sx _ _ (s3a _ _ (s03 _ _ e))) nL) ?_⟩⟩⟩))))))
            · rw [i0]
              exact .int _
            · have e : faultO es ds = some i := by
                unfold faultO
                rw [h]
              rw [e]
              exact upd_same
          refine seq_i (ifs_i ?_)
          refine mkt_go (!decide (ee ∈ es) || decide (ee ∈ u)) (mkt_or (mkt_test (mak_ninE (mak_var (i := 7) rfl det) (j := 0) rfl (.lst (le3.more s3a).1.choose_spec.1 (le3.more s3a).1.choose_spec.2))) fun _ => mkt_test (mak_inE (mak_var (i := 7) rfl det) (j := 3) rfl (.lst hUa dua))) fun Hb sb => ?_
          by_cases ok : ee ∈ es ∧ ee ∉ u
          · refine ifF (by rw [decide_eq_true ok.1, decide_eq_false ok.2]; rfl) (next_i ?_)
            rw [goW_yes ok.1 ok.2] at run
            dsimp only
            refine ⟨_, rfl, .inl ⟨rfl, _, SqL.of (sb _ _ hUa)⟩, cons_i ⟨_, rfl, nil_i ⟨U, us, .ref t, rfl, rfl, sb _ _ hUa, ?_, ?_⟩⟩⟩
            · have lu := sub_len nu su
              rw [dua.length, List.length_map]
              exact Nat.lt_of_le_of_lt (show u.length ≤ 1000 by omega) (by decide)
            · have nUe : ∀ b o, H3 b = some o → b ≠ U := fun b o e z => by rw [z, nU] at e; cases e
              have nU2 : p2 ≠ U := fun z => by
                have h2 := sb _ _ q2a
                rw [z, sb _ _ hUa] at h2
                cases h2
              have tk : Tk Hb (upd Hb U (.lst (us ++ [.ref t]))) := but_tk but_upd fun ws e => by rw [sb _ _ hUa] at e; cases e
              refine ⟨_, _, _, _, u ++ [ee], us ++ [.ref t], rfl, fun b o e => ?_, ?_, upd_same, ?_, fun e he => ?_, ?_, run⟩
              · rw [upd_ne (nUe b o e)]
                exact sb _ _ (s3a _ _ e)
              · rw [upd_ne nU2]
                exact sb _ _ q2a
              · rw [List.map_append]
                exact dvs_app (dvs_tk tk (dua.more sb) (imms_es _)) (.cons (dv_tk tk (det.more sb) (eP_imm _)) .nil)
              · rcases List.mem_append.mp he with h | h
                · exact su e h
                · rw [List.mem_singleton.mp h]
                  exact ok.1
              · rw [List.nodup_append]
                refine ⟨nu, by simp, ?_⟩
                rintro x hx y hy rfl
                rw [List.mem_singleton.mp hy] at hx
                exact ok.2 hx
          · refine ifT ?_ (bad (stop ok) sb)
            by_cases m1 : ee ∈ es
            · have m2 : ee ∈ u := Classical.byContradiction fun n => ok ⟨m1, n⟩
              rw [decide_eq_true m2, Bool.or_true]
            · rw [decide_eq_false m1]
              rfl
        · rintro σ H' ⟨o5, o6, o7, o8, u, us, rfl, s7, q2, hU7, du7, su, nu, run⟩
          rw [List.drop_of_length_le (by rw [eds_len]; omega), goW_nil] at run
          exact ⟨_, _, _, _, _, u, us, rfl, s7, hU7, du7, su, nu, run⟩
      · rintro σ H5 ⟨o4, o5, o6, o7, o8, u, us, rfl, s5, hU5, du, su, nu, run⟩
        rw [List.drop_of_length_le (by omega)] at run
        have run : (Sum.inr u : Nat ⊕ List Eg) = runW es ds 0 [] := run
        have ef : faultO es ds = if u.length = es.length then none else some ds.length := by
          unfold faultO
          rw [← run]
        obtain ⟨xe, hAe, dxe⟩ := (le3.more s5).1
        have lu : us.length = u.length := by rw [du.length, List.length_map]
        have lxe : xe.length = es.length := by rw [dxe.length, List.length_map]
        have lu4 := sub_len nu su
        refine ret_i (lst_i (cons_i (c_i (cons_i (cb_i (cons_i ⟨_, rfl, U, us, rfl, .inl (SqL.of hU5), _, rfl, Ae, xe, rfl, .inl (SqL.of hAe), rfl, _, rfl, ?_⟩))))))
        by_cases c : u.length = es.length
        · rw [ef, if_pos c] at q
          refine ifT (decide_eq_true (by rw [lu, lxe, c])) (c_i (nil_i ⟨_, .none, rfl, .non, nice_non, nil_i ⟨(by show 2 ≤ sizeLine; decide), fun L nL => q L _ (fun b o e => stay (s5 _ _ (s03 _ _ e)) nL) upd_same⟩⟩))
        · rw [ef, if_neg c] at q
          refine ifF (decide_eq_false fun h => c ?_) ⟨_, rfl, a, xs, rfl, seqA s5, nil_i ⟨_, .int ds.length, rfl, ?_, nice_n (by omega), nil_i ⟨(by show 2 ≤ sizeLine; decide), fun L nL => q L _ (fun b o e => stay (s5 _ _ (s03 _ _ e)) nL) upd_same⟩⟩⟩
          · have := V.int.inj h
            omega
          · rw [ln]
            exact .int _

end
end Y1
set_option Elab.async false
set_option linter.all false
set_option maxRecDepth 100000
set_option maxHeartbeats 16000000
/-! _law_caught. -/
namespace Y1
open PySem PySem.Spec PyProof.Rows L2 Nv
/-- how the classes of exceptions stand to one another -/
structure Tex (K : PySem.W.Frag) (mg : Str → Option Value) (CL CW CN : Addr) : Prop where
  e11 : PySem.W.exmOne K (.ref CL) (.ref CL) = some true
  e21 : PySem.W.exmOne K (.ref CW) (.ref CL) = some false
  e22 : PySem.W.exmOne K (.ref CW) (.ref CW) = some true
  gN : mg "NevercrossedError" = some (.ref CN)
def spCau (K : PySem.W.Frag) (CF : Addr) : Sp := fun vs H Q _ => ∃ x es wv ans, vs = [.ref x, wv] ∧ FigE CF H x es ∧ es.length ≤ 400 ∧ Hand K CF es H wv ans ∧ ∀ L H', Same H H' → H' L = some (.lst [.str ans.1, .str ans.2]) → Q (.ref L) H'
theorem find_first {p : PyData → Bool} : ∀ {ds : List PyData} {k : Nat} {d : PyData}, ds[k]? = some d → p d = true → (∀ j z, j < k → ds[j]? = some z → p z = false) → ds.find? p = some d
  | [], k, d, h, _, _ => by simp at h
  | x :: r, 0, d, h, hp, _ => by
    have e : x = d := Option.some.inj h
    subst e
    rw [List.find?_cons, hp]
  | x :: r, k + 1, d, h, hp, hn => by
    rw [List.find?_cons, hn 0 x (by omega) rfl]
    exact find_first (ds := r) (k := k) h hp fun j z hj hz => hn (j + 1) z (by omega) hz
theorem run_le {es : List Eg} : ∀ {ds : List PyData} {i j : Nat} {u : List Eg}, runW es ds i u = .inl j → j < i + ds.length
  | [], i, j, u, h => by cases h
  | w :: r, i, j, u, h => by
    rw [runW_cons] at h
    unfold goW at h
    rw [List.length_cons]
    split at h
    · cases h
      omega
    · have := run_le (ds := r) h
      omega
theorem fault_le {es : List Eg} {ds : List PyData} {i : Nat} (h : faultO es ds = some i) : i ≤ ds.length := by
  unfold faultO at h
  split at h
  · rename_i j e
    cases h
    have := run_le e
    omega
  · split at h
    · cases h
    · cases h
      exact Nat.le_refl _
abbrev cauN : List Str := ["_law_figure", "_law_walks", "e"]
section
variable {P : Program} {w : World} {K : PySem.W.Frag} {mg : Str → Option Value} {base : Heap} {CL CW CN CF CH fI : Addr}
theorem scCau : FnScope cauN ["_law_figure", "_law_walks"] (defScope (top 43)) := ⟨rfl, rfl, rfl, by decide +kernel, rfl, by decide +kernel, by decide +kernel⟩
theorem ok_cau {f fD fS : Addr} {fd fdD fdS : FuncData} (F : Fun K "_law_caught" "_law_caught" (top 43) f fd) (R : Trp mg) (XL : TieN K mg "InvalidWalks" CL fI) (XW : TieN K mg "InvalidWalk" CW fI) (EX : Tex K mg CL CW CN)
    (GD : FnOk P w K mg base (L2N.CX P w) 6 fD fdD ["figure", "walks"] (spDf K CF CL CW)) (AD : At K mg "division_fault" fD fdD ["figure", "walks"])
    (GS : FnAG P w K mg base 1 fS fdS ["_law_value"] (spShn CF)) (AS : At K mg "_law_shown" fS fdS ["_law_value"]) :
    FnG P w K mg base 8 f fd ["_law_figure", "_law_walks"] (spCau K CF) := by
  refine FnG.made F scCau (fun vs H Q E h => by obtain ⟨x, es, wv, ans, rfl, _⟩ := h; rfl) (fun cdv A outer s H vs Q E gd hr h => ?_)
  obtain ⟨x, es, wv, ans, rfl, fg, l400, hand, q⟩ := h
  have hu : ∀ h : Option Value, ((A.deeper (envOfC "_law_caught" (defScope (top 43)) s.heap.objs.size f cdv)).mark h).units + 100 < cLine := fun h => by
    have := hr.un
    show (A.deeper (envOfC "_law_caught" (defScope (top 43)) s.heap.objs.size f cdv)).units + 100 < cLine
    omega
  have hu0 : (A.deeper (envOfC "_law_caught" (defScope (top 43)) s.heap.objs.size f cdv)).units + 100 < cLine := hu none
  have rh : ∀ h : Option Value, L2H.RoomH 1 ((A.deeper (envOfC "_law_caught" (defScope (top 43)) s.heap.objs.size f cdv)).mark h) := fun h => ⟨(hr.mono (by decide : 1 ≤ 7)).dp, (hr.mono (by decide : 1 ≤ 7)).un⟩
  refine ⟨_, pss_one (NvN.ps_try_hds (X := (cxOf CX0 P w K mg base cauN "_law_caught" (defScope (top 43)) f cdv A outer s H E).nox) (Wout := fun _ _ _ _ => False) rfl rfl scCau.nd takesN0
    (fun W pn xe tk _ => pss_one (ps_ret (pe_lst (pa_cons pe_str (pa_cons (pe_callB (call_reprD (X := Cx.tr _ pn xe) gd hu0) (by rfl) R.rep (by decide +kernel) (pa_cons (pe_callS GD (hr.mono (by decide)) rfl AD.g AD.k AD.b (L2N.passAt tk) (pa_cons (pv 0) (pa_cons (pv 1) pa_nil))) pa_nil)) pa_nil)))))
    (.named (i := 2) (c := .ref CL) ⟨rfl, by decide, .inl XL.gl⟩ rfl rfl (fun a oe cls d pn hz hf nb => pss_one (ps_ret (pe_lst (pa_cons pe_str (pa_cons (pe_callAG GS gd (rh _) rfl AS.g AS.k AS.b (pe_xf (C := CL) XL.xc.fl XL.xc.mx.nov hz.zc hf (pv 2))) pa_nil)))))
    (.named (i := 2) (c := .ref CW) ⟨rfl, by decide, .inl XW.gl⟩ rfl rfl (fun a oe cls d pn hz hf nb => pss_one (ps_ret (pe_lst (pa_cons pe_str (pa_cons (pe_callB (call_reprD (X := Cx.suite _ a ((a, oe) :: pn)) gd (hu _)) (by rfl) R.rep (by decide +kernel) (pa_cons (pe_xf (C := CW) XW.xc.fl XW.xc.mx.nov hz.zc hf (pv 2)) pa_nil)) pa_nil)))))
    (.bare (c := .ref CN) ⟨rfl, by decide, .inl EX.gN⟩ (fun a oe cls d pn hz hf nb => pss_one (ps_ret (pe_lst (pa_cons pe_str (pa_cons pe_str pa_nil))))) .nil)))), ?_⟩
  dsimp only
  generalize hW : wHds _ _ _ _ = W
  refine ret_i (lst_i (cons_i (c_i (cons_i (cb_i (cons_i (callS_i (cons_i ⟨_, rfl, cons_i ⟨_, rfl, nil_i ?_⟩⟩))))))))
  cases hand with
  | @odd _ t z ty no sh =>
    refine ⟨x, es, wv, t, false, rfl, fg, l400, ty, no, fun _ dx H1 s1 hd => ?_, fun e => nomatch e⟩
    obtain ⟨n, hd⟩ := hd
    show W (.ref CL) (some dx) _ H1
    rw [← hW]
    refine ⟨true, EX.e11, fun _ ax na => ?_, fun z => nomatch z⟩
    refine ret_i (lst_i (cons_i (c_i (cons_i ⟨_, rfl, rfl, rfl, dx, _, wv, rfl, hd, rfl, wv, z, rfl, sh.more s1, fun H2 s2 => nil_i ⟨(by show 2 ≤ sizeLine; decide), fun L nL => q L _ (fun b o e => stay (s2 _ _ (s1 _ _ e)) nL) upd_same⟩⟩))))
  | @seq a o t xs ds ty yes h ho dv ask it l =>
    have ln := dv.length
    refine ⟨x, es, .ref a, t, true, rfl, fg, l400, ty, yes, (fun e => nomatch e), fun _ => ⟨a, o, xs, ds, rfl, h, ho, dv, fun d hd ds' e => (ask d hd ds' e).1, by omega, fun k v d hk hd nw fst dx H1 s1 hd1 => ?_, fun alw H1 s1 => ?_⟩⟩
    · obtain ⟨n, hd1⟩ := hd1
      show W (.ref CW) (some dx) _ H1
      rw [← hW]
      refine ⟨false, EX.e21, (fun z => nomatch z), fun _ => ⟨true, EX.e22, fun _ ax na => ?_, fun z => nomatch z⟩⟩
      obtain ⟨d', hd', dvx⟩ := dv.at k v hk
      rw [hd] at hd'
      cases hd'
      have ea : ansK es ds = (("walk" : Str), d.shown) := by
        unfold ansK
        rw [find_first (p := fun d => !walkB d) hd (by show (!walkB d) = true; rw [nw]; rfl) fun j z hj hz => by show (!walkB z) = false; rw [fst j z hj hz]; rfl]
      rw [ea] at q
      refine ret_i (lst_i (cons_i (c_i (cons_i (cb_i (cons_i ⟨_, rfl, rfl, rfl, dx, _, v, rfl, hd1, rfl, nil_i ⟨v, d, rfl, dvx.more s1, (it d (List.mem_of_getElem? hd) nw).nice, nil_i ⟨(by show 2 ≤ sizeLine; decide), fun L nL => q L _ (fun b o e => stay (s1 _ _ e) nL) upd_same⟩⟩⟩))))))
    · have ea : ansK es ds = (("told" : Str), (optD (faultO es ds)).shown) := by
        unfold ansK
        rw [List.find?_eq_none.mpr fun d hd => by rw [alw d hd]; decide]
      rw [ea] at q
      have nice : Nice (optD (faultO es ds)) := by
        cases e : faultO es ds with
        | none => exact nice_non
        | some i => exact nice_n (by have := fault_le e; omega)
      exact nil_i ⟨_, _, rfl, dv_opt _, nice, nil_i ⟨(by show 2 ≤ sizeLine; decide), fun L nL => q L _ (fun b o e => stay (s1 _ _ e) nL) upd_same⟩⟩
end
end Y1
set_option Elab.async false
set_option linter.all false
set_option maxRecDepth 100000
set_option maxHeartbeats 4000000
/-! min of a tuple of two ints. -/
namespace Nv
open PySem PySem.Spec PyProof.Rows L2
theorem alike_int2m (i j : Int) : PySem.W.AlikeAll [.int i, .int j] := by
  constructor
  · intro x hx y hy
    simp only [List.mem_cons, List.not_mem_nil, or_false] at hx hy
    rcases hx with rfl | rfl <;> rcases hy with rfl | rfl <;> simp [PySem.W.alike, PySem.W.alikeAll]
  · intro x hx
    simp only [List.mem_cons, List.not_mem_nil, or_false] at hx
    rcases hx with rfl | rfl <;> exact fun h => nomatch h
section
variable {X : Cx}
def rMinT2 : List V → Hp → VK → Prop := fun vs H Q => ∃ (a : Addr) (i j : Int), vs = [V.ref a] ∧ H a = some (.tup [.int i, .int j]) ∧ Q (.int (min i j)) H
theorem cr_minT2 (hc : X.calm = true) (hu : X.A.units + 100 < cLine) : CallR X (.builtin "min") rMinT2 := by
  intro pins s σ H vs us Q I r h
  obtain ⟨a, i, j, rfl, ha, q⟩ := h
  obtain ⟨its, rv, ht, _⟩ := I.tuple (SqT.of (K := X.K) ha)
  rw [Vals.ref1 r]
  obtain ⟨u, y, ei, ru, ry⟩ := vals2 rv
  subst ei
  obtain ⟨t1, rfl⟩ := (show ∃ t, u = Value.int i t from ru)
  obtain ⟨t2, rfl⟩ := (show ∃ t, y = Value.int j t from ry)
  have hl : s.heap.IsTuple a (#[Value.int i t1, Value.int j t2] : Array Value) := by
    obtain ⟨o, ho, hc, n, hd⟩ := ht
    exact ⟨o, ho, hc, n, by simpa using hd⟩
  refine PySem.W.min_tuple_data (x := .int i) (xs := [.int j]) (as := []) (I.ok.hd hc) hl (.cons (.int i t1) (.cons (.int j t2) .nil)) (alike_int2m i j) (by simp only [PyData.depthAll, PyData.depth]; omega) fun k v h' tk bs hv rm hk => ?_
  have e := PySem.W.minD_ints i [j]
  rw [show [j].map PyData.int = [.int j] from rfl] at e
  rw [e] at rm
  cases rm with
  | int _ t => exact ⟨.int _, H, I.kept hk, ⟨_, rfl⟩, q⟩
end
end Nv
set_option Elab.async false
set_option linter.all false
set_option maxRecDepth 100000
set_option maxHeartbeats 16000000
/-! Expressions that may draw from the box, and that make data. -/
namespace Y1
open PySem PySem.Spec PyProof.Rows L2 Nv
mutual
theorem dv_hid {H : Hp} {p : Addr} {m : Int} (bx : BoxAt H p m) : ∀ {v : V} {d : PyData}, DV H v d → imm d = true → DV (hid p H) v d
  | _, _, .non, _ => .non
  | _, _, .bl b, _ => .bl b
  | _, _, .int i, _ => .int i
  | _, _, .str x, _ => .str x
  | _, _, .lst h r, n => by simp [imm] at n
  | _, _, .tup h r, n => .tup (hid_of h (fun z => box_notup bx _ (by rw [← z]; exact h)) (.inl fun xs e => nomatch e)) (dvs_hid bx r (by simpa [imm] using n))
  | _, _, .emp h, n => by simp [imm] at n
theorem dvs_hid {H : Hp} {p : Addr} {m : Int} (bx : BoxAt H p m) : ∀ {vs : List V} {ds : List PyData}, DVs H vs ds → imms ds = true → DVs (hid p H) vs ds
  | _, _, .nil, _ => .nil
  | _, _, .cons (d := d) (ds := ds) h r, n => by
    have n : imm d = true ∧ imms ds = true := by simpa [imms] using n
    exact .cons (dv_hid bx h n.1) (dvs_hid bx r n.2)
end
theorem dvh_but {p : Addr} {H H' : Hp} {v : V} {d : PyData} (b : But p H H') (h : DV (hid p H) v d) : DV (hid p H') v d := h.more (hid_but b)
theorem dvhs_but {p : Addr} {H H' : Hp} {v : List V} {d : List PyData} (b : But p H H') (h : DVs (hid p H) v d) : DVs (hid p H') v d := h.more (hid_but b)
theorem dv_of {p : Addr} {H : Hp} {v : V} {d : PyData} (h : DV (hid p H) v d) : DV H v d := h.more hid_le
theorem dvs_of {p : Addr} {H : Hp} {v : List V} {d : List PyData} (h : DVs (hid p H) v d) : DVs H v d := h.more hid_le
/-- from H0 on, drawing at most c times from the box at p, the expression makes a datum of which R is true -/
def MakB (p : Addr) (c : Nat) (σ : L2.St) (H0 : Hp) (t : TE) (R : PyData → Prop) : Prop := ∀ (H : Hp) (Q : VK) (m : Nat), But p H0 H → BoxAt H p (m : Int) → m + c ≤ 900000 →
  (∀ v d H', R d → But p H H' → BoxAt H' p ((m + c : Nat) : Int) → DV (hid p H') v d → Q v H') → t σ H Q
def MakBA (p : Addr) (c : Nat) (σ : L2.St) (H0 : Hp) (t : TA) (R : List PyData → Prop) : Prop := ∀ (H : Hp) (Q : List V → Hp → Prop) (m : Nat), But p H0 H → BoxAt H p (m : Int) → m + c ≤ 900000 →
  (∀ v d H', R d → But p H H' → BoxAt H' p ((m + c : Nat) : Int) → DVs (hid p H') v d → Q v H') → t σ H Q
theorem but0 (p : Addr) (H : Hp) : But p H H := fun _ _ _ e => e
section
variable {p : Addr} {σ : L2.St} {H0 : Hp} {c c1 c2 : Nat} {t u : TE} {R R' S : PyData → Prop}
theorem mkb_weak (h : MakB p c σ H0 t R) (w : ∀ d, R d → R' d) : MakB p c σ H0 t R' := fun H Q m b bx hm q => h H Q m b bx hm fun v d H' r => q v d H' (w d r)
theorem mkb_le (h : MakB p c1 σ H0 t R) (l : c1 ≤ c2) : MakB p c2 σ H0 t R := fun H Q m b bx hm q => h H Q m b bx (by omega) fun v d H' r b' bx' => q v d H' r b' (bx'.le (by omega))
theorem mkb_up {H1 : Hp} (h : MakB p c σ H0 t R) (b : But p H0 H1) : MakB p c σ H1 t R := fun H Q m b' => h H Q m (but_tr b b')
theorem mkb_var {i : Nat} {v : V} {d : PyData} (h : σ[i]? = some (some v)) (dv : DV (hid p H0) v d) : MakB p 0 σ H0 (tVar i) (· = d) := fun H Q m b bx hm q => ⟨v, h, q v d H rfl (but0 p H) bx (dvh_but b dv)⟩
theorem mkb_int {i : Int} : MakB p 0 σ H0 (tC (.int i)) (· = .int i) := fun H Q m b bx hm q => q _ _ H rfl (but0 p H) bx (.int i)
theorem mkb_str {i : Str} : MakB p 0 σ H0 (tC (.str i)) (· = .str i) := fun H Q m b bx hm q => q _ _ H rfl (but0 p H) bx (.str i)
theorem mkb_non : MakB p 0 σ H0 (tC .non) (· = .none) := fun H Q m b bx hm q => q _ _ H rfl (but0 p H) bx .non
theorem mkb_bl {i : Bool} : MakB p 0 σ H0 (tC (.bl i)) (· = .bool i) := fun H Q m b bx hm q => q _ _ H rfl (but0 p H) bx (.bl i)
theorem mkb_emp : MakB p 0 σ H0 tDNewK (· = .dict []) := fun H Q m b bx hm q => fun d nd =>
  q _ _ _ rfl (fun x o n e => stay e nd) (bx.more fun x o e => stay e nd) (.emp (hid_of upd_same (bx.ne nd) (.inl fun xs e => nomatch e)))
theorem mkb_nil : MakBA p 0 σ H0 tNil (· = []) := fun H Q m b bx hm q => q _ _ H rfl (but0 p H) bx .nil
theorem mkb_cons {ts : TA} {S : List PyData → Prop} (h : MakB p c1 σ H0 t R) (k : MakBA p c2 σ H0 ts S) : MakBA p (c1 + c2) σ H0 (tCons t ts) (fun ds => ∃ d r, ds = d :: r ∧ R d ∧ S r) := fun H Q m b bx hm q =>
  h H _ m b bx (by omega) fun v d H1 r1 b1 bx1 dv1 =>
    k H1 _ (m + c1) (but_tr b b1) bx1 (by omega) fun vs ds H2 r2 b2 bx2 dv2 => q _ _ H2 ⟨d, ds, rfl, r1, r2⟩ (but_tr b1 b2) (bx2.le (by omega)) (.cons (dvh_but b2 dv1) dv2)
theorem mkb_tup {ts : TA} {S : List PyData → Prop} (h : MakBA p c σ H0 ts S) (l : ∀ ds, S ds → ds.length ≤ sizeLine) : MakB p c σ H0 (tTup ts) (fun d => ∃ ds, d = .tuple ds ∧ S ds) := fun H Q m b bx hm q =>
  h H _ m b bx hm fun vs ds H1 r1 b1 bx1 dv1 => ⟨by rw [dv1.length]; exact l ds r1, fun x nx => by
    have s : Same H1 (upd H1 x (.tup vs)) := fun b o e => stay e nx
    exact q _ _ _ ⟨ds, rfl, r1⟩ (but_more b1 s) (bx1.more s) (.tup (hid_of upd_same (bx1.ne nx) (.inl fun xs e => nomatch e)) (dv1.more (hid_same s)))⟩
theorem mkb_lst {ts : TA} {S : List PyData → Prop} (h : MakBA p c σ H0 ts S) (l : ∀ ds, S ds → ds.length ≤ sizeLine) : MakB p c σ H0 (tLstS ts) (fun d => ∃ ds, d = .list ds ∧ S ds) := fun H Q m b bx hm q =>
  h H _ m b bx hm fun vs ds H1 r1 b1 bx1 dv1 => ⟨by rw [dv1.length]; exact l ds r1, fun x nx ns => by
    have s : Same H1 (upd H1 x (.lst vs)) := fun b o e => stay e nx
    exact q _ _ _ ⟨ds, rfl, r1⟩ (but_more b1 s) (bx1.more s) (.lst (hid_of upd_same (bx1.ne nx) (.inr ns)) (dv1.more (hid_same s)))⟩
theorem dvh_lst {H : Hp} {v : V} {ds : List PyData} (h : DV (hid p H) v (.list ds)) : ∃ a xs, v = .ref a ∧ H a = some (.lst xs) ∧ DVs (hid p H) xs ds ∧ a ≠ p ∧ a ≠ sysModules := by
  obtain ⟨a, xs, rfl, ha, dx⟩ := dv_lst h
  obtain ⟨h1, h2, h3⟩ := hid_at ha
  exact ⟨a, xs, rfl, h1, dx, h2, h3.resolve_left fun f => f xs rfl⟩
theorem dvh_tup {H : Hp} {v : V} {ds : List PyData} (h : DV (hid p H) v (.tuple ds)) : ∃ a xs, v = .ref a ∧ H a = some (.tup xs) ∧ DVs (hid p H) xs ds ∧ a ≠ p := by
  obtain ⟨a, xs, rfl, ha, dx⟩ := dv_tup h
  obtain ⟨h1, h2, _⟩ := hid_at ha
  exact ⟨a, xs, rfl, h1, dx, h2⟩
/-- an operation on two ints -/
theorem mkb_op {g : Int → Int → Int} (h : MakB p c1 σ H0 t R) (k : MakB p c2 σ H0 u S) (hR : ∀ d, R d → ∃ i, d = .int i) (hS : ∀ d, S d → ∃ i, d = .int i) :
    MakB p (c1 + c2) σ H0 (tOp (rI0 fun i j => V.int (g i j)) t u) (fun d => ∃ i j, d = .int (g i j) ∧ R (.int i) ∧ S (.int j)) := fun H Q m b bx hm q =>
  h H _ m b bx (by omega) fun v d H1 r1 b1 bx1 dv1 => k H1 _ (m + c1) (but_tr b b1) bx1 (by omega) fun v2 d2 H2 r2 b2 bx2 dv2 => by
    obtain ⟨i, rfl⟩ := hR d r1
    obtain ⟨j, rfl⟩ := hS d2 r2
    cases dv1
    cases dv2
    exact ⟨i, j, rfl, rfl, q _ _ H2 ⟨i, j, rfl, r1, r2⟩ (but_tr b1 b2) (bx2.le (by omega)) (.int _)⟩
/-- a draw -/
theorem mkb_take {i : Nat} {E : XK} (h : σ[i]? = some (some (.ref p))) (k : MakB p c σ H0 t S) (hS : ∀ d, S d → ∃ n, d = .int n ∧ 0 < n ∧ n ≤ 100000) : MakB p (c + 1) σ H0 (tCall spTake [] E (tCons (tVar i) (tCons t tNil))) (fun d => ∃ r n, d = .int r ∧ S (.int n) ∧ 0 ≤ r ∧ r < n) := fun H Q m b bx hm q =>
  ⟨_, h, k H _ m b bx (by omega) fun v d H1 r1 b1 bx1 dv1 => by
    obtain ⟨n, rfl, n0, n1⟩ := hS d r1
    cases dv1
    exact ⟨p, _, n, rfl, bx1, by omega, n0, n1, fun r H2 r0 rl bx2 b2 => q _ _ H2 ⟨r, n, rfl, r1, r0, rl⟩ (but_tr b1 b2) (bx2.le (by omega)) (.int _)⟩⟩
/-- two lists to one -/
theorem mkb_cat (h : MakB p c1 σ H0 t R) (k : MakB p c2 σ H0 u S) (hR : ∀ d, R d → ∃ ds, d = .list ds ∧ ds.length ≤ 100000) (hS : ∀ d, S d → ∃ ds, d = .list ds ∧ ds.length ≤ 100000) :
    MakB p (c1 + c2) σ H0 (tOp rCatSN t u) (fun d => ∃ xs ys, d = .list (xs ++ ys) ∧ R (.list xs) ∧ S (.list ys)) := fun H Q m b bx hm q =>
  h H _ m b bx (by omega) fun v d H1 r1 b1 bx1 dv1 => k H1 _ (m + c1) (but_tr b b1) bx1 (by omega) fun v2 d2 H2 r2 b2 bx2 dv2 => by
    obtain ⟨xs, rfl, lx⟩ := hR d r1
    obtain ⟨ys, rfl, ly⟩ := hS d2 r2
    obtain ⟨a, as, rfl, ha, da, na, _⟩ := dvh_lst dv1
    obtain ⟨e, es, rfl, he, de, ne, _⟩ := dvh_lst dv2
    refine ⟨a, e, as, es, rfl, rfl, b2 _ _ na ha, he, by rw [da.length, de.length]; exact Nat.le_trans (show _ ≤ 200000 by omega) (by decide), fun z nz ns => ?_⟩
    have s : Same H2 (upd H2 z (.lst (as ++ es))) := fun b o e => stay e nz
    exact q _ _ _ ⟨xs, ys, rfl, r1, r2⟩ (but_more (but_tr b1 b2) s) ((bx2.le (by omega)).more s) (.lst (hid_of upd_same (bx2.ne nz) (.inr ns)) (dvs_app ((dvhs_but b2 da).more (hid_same s)) (de.more (hid_same s))))
/-- one of a list -/
theorem mkb_ixL {K : PySem.W.Frag} (h : MakB p c1 σ H0 t R) (k : MakB p c2 σ H0 u S) (hR : ∀ d, R d → ∃ ds, d = .list ds) (hS : ∀ ds d, R (.list ds) → S d → ∃ n : Nat, d = .int (n : Int) ∧ n < ds.length) :
    MakB p (c1 + c2) σ H0 (tOp (rIxL K) t u) (fun d => ∃ ds, R (.list ds) ∧ d ∈ ds) := fun H Q m b bx hm q =>
  h H _ m b bx (by omega) fun v d H1 r1 b1 bx1 dv1 => k H1 _ (m + c1) (but_tr b b1) bx1 (by omega) fun v2 d2 H2 r2 b2 bx2 dv2 => by
    obtain ⟨ds, rfl⟩ := hR d r1
    obtain ⟨n, rfl, hn⟩ := hS ds d2 r1 r2
    obtain ⟨a, as, rfl, ha, da, na, _⟩ := dvh_lst dv1
    cases dv2
    have hl : n < as.length := by rw [da.length]; exact hn
    obtain ⟨d', hd', dk⟩ := (dvhs_but b2 da).at n as[n] (List.getElem?_eq_getElem hl)
    exact ⟨a, as, (n : Int), as[n], rfl, rfl, SqL.of (b2 _ _ na ha), atI_nat (List.getElem?_eq_getElem hl), q _ _ H2 ⟨ds, r1, List.mem_of_getElem? hd'⟩ (but_tr b1 b2) (bx2.le (by omega)) dk⟩
theorem mkb_lenL {K : PySem.W.Frag} (h : MakB p c σ H0 t R) (hR : ∀ d, R d → ∃ ds, d = .list ds) : MakB p c σ H0 (tCB (fun xs H Q => ∃ p ys, xs = [.ref p] ∧ (SqL K H p ys ∨ SqT K H p ys) ∧ Q (.int ys.length) H) (tCons t tNil)) (fun d => ∃ ds, d = .int ds.length ∧ R (.list ds)) := fun H Q m b bx hm q =>
  h H _ m b bx hm fun v d H1 r1 b1 bx1 dv1 => by
    obtain ⟨ds, rfl⟩ := hR d r1
    obtain ⟨a, as, rfl, ha, da, na, _⟩ := dvh_lst dv1
    refine ⟨a, as, rfl, .inl (SqL.of ha), ?_⟩
    rw [da.length]
    exact q _ _ H1 ⟨ds, rfl, r1⟩ b1 bx1 (.int _)
end
/-- go: with what stands now -/
theorem mkb_go {p : Addr} {c : Nat} {σ : L2.St} {H : Hp} {t : TE} {R : PyData → Prop} {Q : VK} {m : Nat} (h : MakB p c σ H t R) (bx : BoxAt H p (m : Int)) (hm : m + c ≤ 900000) (q : ∀ v d H', R d → But p H H' → BoxAt H' p ((m + c : Nat) : Int) → DV (hid p H') v d → Q v H') : t σ H Q := h H Q m (but0 p H) bx hm q
theorem mkba_go {p : Addr} {c : Nat} {σ : L2.St} {H : Hp} {t : TA} {R : List PyData → Prop} {Q : List V → Hp → Prop} {m : Nat} (h : MakBA p c σ H t R) (bx : BoxAt H p (m : Int)) (hm : m + c ≤ 900000) (q : ∀ v d H', R d → But p H H' → BoxAt H' p ((m + c : Nat) : Int) → DVs (hid p H') v d → Q v H') : t σ H Q := h H Q m (but0 p H) bx hm q
end Y1
set_option Elab.async false
set_option linter.all false
set_option maxRecDepth 100000
set_option maxHeartbeats 16000000
/-! _law_longer. -/
namespace Y1
open PySem PySem.Spec PyProof.Rows L2 Nv
abbrev lonN : List Str := ["_law_box_here", "_law_walk", "_law_x", "_law_y", "_law_near", "_law_point"]
structure Tmm (mg : Str → Option Value) : Prop where
  min : mg "min" = none
  max : mg "max" = none
def spLon : Sp := fun vs H Q _ => ∃ (p : Addr) (m : Nat) (v : V) (u : List Pt) (y z : Pt), vs = [.ref p, v] ∧ BoxAt H p (m : Int) ∧ m ≤ 900000 ∧ DV H v (wP (u ++ [y, z])) ∧ u.length ≤ 1000 ∧ (∀ x ∈ u ++ [y, z], onP x = true) ∧
  ∀ v' x H', But p H H' → BoxAt H' p ((m + 1 : Nat) : Int) → onP x = true → DV H' v' (wP (u ++ [y, z] ++ [x])) → Q v' H'
section
variable {K : PySem.W.Frag} {σ : L2.St} {H0 : Hp}
theorem mak_lastT {t : TE} {ds : List PyData} {d : PyData} (h : Mak σ H0 t (.tuple (ds ++ [d]))) : Mak σ H0 (tOp (rIxT K) t (tUn (rU fun i => V.int (-i)) (tC (.int 1)))) d := fun H Q s q =>
  h H _ s fun v H1 s1 dv => by
    obtain ⟨a, xs, rfl, ha, dx⟩ := dv_tup dv
    obtain ⟨ys, v, rfl, dl⟩ := dvs_last dx
    exact ⟨1, rfl, a, _, -1, v, rfl, rfl, SqT.of ha, atI_last _ _, q v H1 s1 dl⟩
theorem atI_last2 {α : Type} (xs : List α) (v w : α) : atI (xs ++ [v, w]) (-2) = some v := by
  have e : ixN (xs ++ [v, w]).length (-2) = some xs.length := by
    unfold ixN
    rw [List.length_append]
    simp
    omega
  unfold atI
  rw [e]
  simp
theorem mak_last2T {t : TE} {ds : List PyData} {d e : PyData} (h : Mak σ H0 t (.tuple (ds ++ [d, e]))) : Mak σ H0 (tOp (rIxT K) t (tUn (rU fun i => V.int (-i)) (tC (.int 2)))) d := fun H Q s q =>
  h H _ s fun v H1 s1 dv => by
    obtain ⟨a, xs, rfl, ha, dx⟩ := dv_tup dv
    rw [show ds ++ [d, e] = (ds ++ [d]) ++ [e] by simp] at dx
    obtain ⟨ys, v, rfl, dl⟩ := dvs_last dx
    have dx2 : DVs H1 ys (ds ++ [d]) := by
      have l1 := dx.length
      simp only [List.length_append, List.length_cons, List.length_nil] at l1
      have := dvs_take ys.length dx
      rwa [List.take_left, show ys.length = (ds ++ [d]).length by simp only [List.length_append, List.length_cons, List.length_nil]; omega, List.take_left] at this
    obtain ⟨zs, w, rfl, dw⟩ := dvs_last dx2
    exact ⟨2, rfl, a, _, -2, w, rfl, rfl, SqT.of ha, by rw [List.append_assoc]; exact atI_last2 _ _ _, q w H1 s1 dw⟩
theorem mak_min2 {t : TE} {i j : Int} (h : Mak σ H0 t (.tuple [.int i, .int j])) : Mak σ H0 (tCB rMinT2 (tCons t tNil)) (.int (min i j)) := fun H Q s q =>
  h H _ s fun v H1 s1 dv => by
    obtain ⟨a, rfl, ha⟩ := dv_pt dv
    exact ⟨a, i, j, rfl, ha, q _ H1 s1 (.int _)⟩
theorem mak_max2 {t : TE} {i j : Int} (h : Mak σ H0 t (.tuple [.int i, .int j])) : Mak σ H0 (tCB rMaxT2 (tCons t tNil)) (.int (max i j)) := fun H Q s q =>
  h H _ s fun v H1 s1 dv => by
    obtain ⟨a, rfl, ha⟩ := dv_pt dv
    exact ⟨a, i, j, rfl, ha, q _ H1 s1 (.int _)⟩
end
def inP (p : Pt) : Bool := decide (0 ≤ min p.1 p.2) && decide (max p.1 p.2 ≤ 30)
theorem inP_on {p : Pt} (h : inP p = true) : onP p = true := by
  simp only [inP, onP, Bool.and_eq_true, decide_eq_true_eq] at *
  omega
theorem on_inP {p : Pt} (h : onP p = true) : inP p = true := by
  simp only [inP, onP, Bool.and_eq_true, decide_eq_true_eq] at *
  omega
theorem ne_boxP {H : Hp} {p M : Addr} {m : Int} {ms : List V} {mo : List Pt} (bx : BoxAt H p m) (h : H M = some (.lst ms)) (dv : DVs H ms (mo.map ptP)) (ne : mo ≠ []) : M ≠ p := fun z => by
  obtain ⟨b0, b1, b2, hb, _⟩ := bx
  rw [z, hb] at h
  cases h
  cases mo with
  | nil => exact ne rfl
  | cons e r =>
    have dv : DVs H [.int b0, .int b1, .int b2] (ptP e :: r.map ptP) := dv
    cases dv with
    | cons h t =>
      obtain ⟨T, e1, _⟩ := dv_pt h
      cases e1
section
variable {P : Program} {w : World} {K : PySem.W.Frag} {mg : Str → Option Value} {base : Heap}
theorem scLon : FnScope lonN ["_law_box_here", "_law_walk"] (defScope (top 44)) := ⟨rfl, rfl, rfl, by decide +kernel, rfl, by decide +kernel, by decide +kernel⟩
theorem ok_lon {f : Addr} {fd : FuncData} (F : Fun K "_law_longer" "_law_longer" (top 44) f fd) (T : Ta mg) (TM : Tmm mg)
    {fT : Addr} {fdT : FuncData} (GT : FnOk P w K mg base CX0 1 fT fdT ["_law_box_here", "_law_many"] spTake) (AT : At K mg "_law_take" fT fdT ["_law_box_here", "_law_many"]) : FnOk P w K mg base CX0 2 f fd ["_law_box_here", "_law_walk"] spLon := by
  refine F.ok scLon (fun vs H Q E h => by obtain ⟨p, m, v, u, y, z, rfl, _⟩ := h; rfl) (fun cdv A outer s H vs Q E hr h => ?_)
  obtain ⟨p, m, v, u, y, z, rfl, bx, hm, dv, l100, on, q⟩ := h
  have hu : (A.deeper (envOfC "_law_longer" (defScope (top 44)) s.heap.objs.size f cdv)).units + 100 < cLine := by
    have := hr.un
    omega
  refine ⟨_, (pss_cons (ps_asg (pe_ix (r := rIxT K) (by exact ix_tup) (pv 1) (pe_un un_neg pe_int) (fun _ _ => rfl)) (pg_tup rfl (pgs_cons (pg_name (i := 2) scLon.nd rfl (by first | exact Or.inl rfl | exact Or.inr rfl)) (pgs_cons (pg_name (i := 3) scLon.nd rfl (by first | exact Or.inl rfl | exact Or.inr rfl)) pgs_nil))))
    (pss_cons (ps_set (i := 4) scLon.nd rfl (by first | exact Or.inl rfl | exact Or.inr rfl) (pe_lst (pa_cons (pe_tup (pa_cons (pe_op op_add (pv 2) pe_int) (pa_cons (pv 3) pa_nil))) (pa_cons (pe_tup (pa_cons (pv 2) (pa_cons (pe_op op_add (pv 3) pe_int) pa_nil))) (pa_cons (pe_tup (pa_cons (pe_op op_sub (pv 2) pe_int) (pa_cons (pv 3) pa_nil))) (pa_cons (pe_tup (pa_cons (pv 2) (pa_cons (pe_op op_sub (pv 3) pe_int) pa_nil))) (pa_cons (pe_ix (r := rIxT K) (by exact ix_tup) (pv 1) (pe_un un_neg pe_int) (fun _ _ => rfl)) pa_nil)))))))
    (pss_cons (ps_setLc (i := 4) (own := [("_law_point", 5)]) (g := gName 5) (tt := (tAnd (tTest (tOp (rI0 fun i j => V.bl (decide (j ≤ i))) (tCB rMinT2 (tCons (tVar 5) tNil)) (tC (.int 0)))) (tTest (tOp (rI0 fun i j => V.bl (decide (i ≤ j))) (tCB rMaxT2 (tCons (tVar 5) tNil)) (tC (.int 30)))))) (te := (tVar 5)) rfl scLon.nd rfl rfl (sw_true rfl rfl rfl (by decide +kernel)) (pi_list (pv 4)) (blkOk_by (N := lonN) (sc := defScope (top 44)) (by decide +kernel)) (fun _ _ _ _ _ => (pg_name (i := 5) scLon.nd rfl (by first | exact Or.inl rfl | exact Or.inr rfl))) (fun _ _ _ _ _ => pts_one (PW.pt (pw_and (pt_cmpR op_ge (pe_callB (cr_minT2 rfl hu) (by rfl) TM.min (by decide +kernel) (pa_cons (pv 5) pa_nil)) pe_int (nomark _)) (pw_and1 (pt_cmpR op_le (pe_callB (cr_maxT2 rfl hu) (by rfl) TM.max (by decide +kernel) (pa_cons (pv 5) pa_nil)) pe_int (nomark _)))))) (fun _ _ _ _ _ => (pv 5)))
    (pss_one (ps_ret (pe_op op_catT (pv 1) (pe_tup (pa_cons (pe_ix (r := rIxL K) (by exact ix_list) (pv 4) (pe_call GT (hr.mono (by decide)) rfl AT.g AT.k AT.b .nil pass0 (pa_cons (pv 0) (pa_cons (pe_callB call_len_seq (by rfl) T.len PySem.boot_len (pa_cons (pv 4) pa_nil)) pa_nil))) (fun _ _ => rfl)) pa_nil)))))))), ?_⟩
  dsimp only
  have dw : DV H v (.tuple ((u ++ [y]).map ptP ++ [ptP z])) := by
    have e : (u ++ [y, z]).map ptP = (u ++ [y]).map ptP ++ [ptP z] := by simp
    rw [← e]
    exact dv
  refine seq_i (asg_i ?_)
  refine mak_go (ptP z) (mak_lastT (mak_var (i := 1) rfl dw)) fun vz H1 s1 dz => ?_
  obtain ⟨az, rfl, haz⟩ := dv_pt dz
  refine ⟨az, _, rfl, SqT.of haz, rfl, _, _, rfl, _, _, rfl, rfl, ?_⟩
  dsimp only [gName]
  refine seq_i (asg_i ?_)
  have dw1 := dw.more s1
  have dv1 : DV H1 v (.tuple (u.map ptP ++ [ptP y, ptP z])) := by
    have e : (u ++ [y, z]).map ptP = u.map ptP ++ [ptP y, ptP z] := by simp
    rw [← e]
    exact dv.more s1
  refine mak_go (.list ([((z.1 + 1, z.2) : Pt), (z.1, z.2 + 1), (z.1 - 1, z.2), (z.1, z.2 - 1), y].map ptP)) ?_ fun vn H2 s2 dn => ?_
  · have X2 : Mak [some (.ref p), some v, some (.int z.1), some (.int z.2), none, none] H1 (tVar 2) (.int z.1) := mak_var rfl (.int _)
    have X3 : Mak [some (.ref p), some v, some (.int z.1), some (.int z.2), none, none] H1 (tVar 3) (.int z.2) := mak_var rfl (.int _)
    exact mak_lst (mak_cons (mak_tup (mak_cons (mak_op (g := fun i j => i + j) X2 mak_int) (mak_cons X3 mak_nil))) (mak_cons (mak_tup (mak_cons X2 (mak_cons (mak_op (g := fun i j => i + j) X3 mak_int) mak_nil))) (mak_cons (mak_tup (mak_cons (mak_op (g := fun i j => i - j) X2 mak_int) (mak_cons X3 mak_nil))) (mak_cons (mak_tup (mak_cons X2 (mak_cons (mak_op (g := fun i j => i - j) X3 mak_int) mak_nil))) (mak_cons (mak_last2T (mak_var (i := 1) rfl dv1)) mak_nil)))))
  have ny : y ∈ ([((z.1 + 1, z.2) : Pt), (z.1, z.2 + 1), (z.1 - 1, z.2), (z.1, z.2 - 1), y]) := by simp
  have l5 : ([((z.1 + 1, z.2) : Pt), (z.1, z.2 + 1), (z.1 - 1, z.2), (z.1, z.2 - 1), y]).length = 5 := rfl
  generalize ([((z.1 + 1, z.2) : Pt), (z.1, z.2 + 1), (z.1 - 1, z.2), (z.1, z.2 - 1), y]) = near at dn ny l5
  dsimp only [gName]
  refine seq_i (asg_i ?_)
  refine mak_go (.list ((near.filter inP).map ptP)) ?_ fun vm H3 s3 dm => ?_
  · refine d_ (mak_lc (fun d => inP (pd d)) (fun d => d) (mak_var (i := 4) rfl dn) (by rw [List.length_map]; omega) (fun d hd => by obtain ⟨x, _, rfl⟩ := List.mem_map.mp hd; exact ptP_imm x) ?_) ?_
    · intro H5 x5 d5 s5 m5 dv5
      obtain ⟨x, _, rfl⟩ := List.mem_map.mp m5
      refine ⟨[some (.ref p), some v, some (.int z.1), some (.int z.2), some vn, some x5], rfl, fun Q q => q, ?_, fun _ => mak_var rfl dv5⟩
      have g5 : Mak [some (.ref p), some v, some (.int z.1), some (.int z.2), some vn, some x5] H5 (tVar 5) (.tuple [.int x.1, .int x.2]) := mak_var rfl dv5
      exact mkt_and (mkt_test (mak_opB (g := fun i j => decide (j ≤ i)) (mak_min2 g5) mak_int)) fun _ => mkt_test (mak_opB (g := fun i j => decide (i ≤ j)) (mak_max2 g5) mak_int)
    · rw [List.map_id', List.filter_map]
      rfl
  have my : y ∈ near.filter inP := List.mem_filter.mpr ⟨ny, on_inP (on y (by simp))⟩
  have onm : ∀ x ∈ near.filter inP, onP x = true := fun x hx => inP_on (List.mem_filter.mp hx).2
  have lm := List.length_filter_le inP near
  generalize near.filter inP = mo at dm my onm lm
  dsimp only [gName]
  have s13 := same_tr s1 (same_tr s2 s3)
  obtain ⟨N, ns, rfl, hN, dns⟩ := dv_lst dm
  obtain ⟨a, xs, rfl, ha, dx⟩ := dv_tup dv
  have bx3 := bx.more s13
  have nNp := ne_boxP bx3 hN dns (List.ne_nil_of_mem my)
  have nap : a ≠ p := fun e => box_notup bx _ (by rw [← e]; exact ha)
  have lns : ns.length = mo.length := by rw [dns.length, List.length_map]
  have pos := List.length_pos_of_mem my
  refine ret_i (op_i ⟨_, rfl, tup_i (cons_i (op_i ⟨_, rfl, tk_i (p := p) (m := (m : Int)) rfl bx3 (by omega) (mak_lenL (mak_var (i := 4) (v := .ref N) rfl dm)) (by rw [List.length_map]; omega) (by rw [List.length_map]; omega) fun r H4 r0 r1 bx4 b4 => ?_⟩))⟩)
  rw [List.length_map] at r1
  have hr : r.toNat < ns.length := by omega
  have tk4 : Tk H3 H4 := but_tk b4 (box_notup bx3)
  obtain ⟨d', hd', dvr⟩ := (dvs_tk tk4 dns (imms_ps _)).at r.toNat ns[r.toNat] (List.getElem?_eq_getElem hr)
  rw [List.getElem?_map] at hd'
  obtain ⟨x, hx, rfl⟩ := Option.map_eq_some_iff.mp hd'
  have er : r = ((r.toNat : Nat) : Int) := by omega
  rw [er]
  refine ⟨N, ns, _, ns[r.toNat], rfl, rfl, SqL.of (b4 _ _ nNp hN), atI_nat (List.getElem?_eq_getElem hr), nil_i ⟨(by show 1 ≤ sizeLine; decide), fun T nT => ?_⟩⟩
  have s5 : Same H4 (upd H4 T (.tup [ns[r.toNat]])) := fun b o e => stay e nT
  have ha5 := s5 _ _ (b4 _ _ nap (s13 _ _ ha))
  have lx := dx.length
  rw [List.length_map, List.length_append] at lx
  have lx : xs.length = u.length + 2 := lx
  refine ⟨a, T, xs, _, rfl, rfl, SqT.of ha5, SqT.of upd_same, (fun e => by rw [e] at lx; simp at lx), Nat.le_trans (show xs.length + 1 ≤ 2000 by omega) (by decide), (fun e => nomatch e), fun _ g ng => ?_⟩
  have s6 : Same (upd H4 T (.tup [ns[r.toNat]])) (upd (upd H4 T (.tup [ns[r.toNat]])) g (.tup (xs ++ [ns[r.toNat]]))) := fun b o e => stay e ng
  have s46 := same_tr s5 s6
  have tk : Tk H H4 := fun b o e => tk4 _ _ (s13 _ _ e)
  refine q _ x _ (but_more (but_tr (same_but s13) b4) s46) (bx4.more s46) (onm x (List.mem_of_getElem? hx)) ?_
  show DV _ _ (.tuple ((u ++ [y, z] ++ [x]).map ptP))
  rw [List.map_append]
  exact .tup upd_same (dvs_app ((dvs_tk tk dx (imms_ps _)).more s46) (.cons (dvr.more s46) .nil))

end
end Y1
set_option Elab.async false
set_option linter.all false
set_option maxRecDepth 100000
set_option maxHeartbeats 16000000
/-! _law_spoilt. -/
namespace Y1
open PySem PySem.Spec PyProof.Rows L2 Nv
abbrev spoN : List Str := ["_law_box_here", "_law_some", "_law_walks", "_law_odd", "_law_at", "_law_kind", "_law_walk", "_law_led", "_law_rows"]
/-- what may stand among the walks, tuples of at most L -/
def Gd (L : Nat) (d : PyData) : Prop := Itm d ∧ ∀ ds, d = .tuple ds → ds.length ≤ L
/-- a tuple of points on the paper -/
def OkW (L : Nat) (w : List Pt) : Prop := 2 ≤ w.length ∧ w.length ≤ L ∧ ∀ x ∈ w, onP x = true
theorem Gd.le {L L' : Nat} {d : PyData} (h : Gd L d) (l : L ≤ L') : Gd L' d := ⟨h.1, fun ds e => Nat.le_trans (h.2 ds e) l⟩
theorem OkW.le {L L' : Nat} {w : List Pt} (h : OkW L w) (l : L ≤ L') : OkW L' w := ⟨h.1, Nat.le_trans h.2.1 l, h.2.2⟩
theorem gd_walk {L : Nat} {ps : List Pt} (l : ps.length ≤ L) (l100 : L ≤ 100) (on : ∀ x ∈ ps, onP x = true) : Gd L (wP ps) := by
  have rng : ∀ x ∈ ps, 0 ≤ x.1 ∧ x.1 ≤ 30 ∧ 0 ≤ x.2 ∧ x.2 ≤ 30 := fun x hx => by
    have := on x hx
    simp only [onP, Bool.and_eq_true, decide_eq_true_eq] at this
    omega
  refine ⟨⟨?_, ?_, ?_, fun h => ?_, fun ds e => ?_, ?_⟩, fun ds e => ?_⟩
  · have : okDs (ps.map ptP) := okDs_all fun d hd => by
      obtain ⟨x, hx, rfl⟩ := List.mem_map.mp hd
      have := rng x hx
      have okI : ∀ {i : Int}, 0 ≤ i → i ≤ 30 → i.natAbs < 10 ^ 40 := fun {i} h0 h1 => Nat.lt_of_le_of_lt (show i.natAbs ≤ 30 by omega) (by decide)
      simp only [ptP, okD, okDs]
      exact ⟨okI this.1 this.2.1, okI this.2.2.1 this.2.2.2, trivial⟩
    simpa [wP, okD] using this
  · show PyData.depthAll (ps.map ptP) + 1 ≤ 5
    have := depth_all (n := 1) (l := ps.map ptP) fun d hd => by
      obtain ⟨x, _, rfl⟩ := List.mem_map.mp hd
      show 1 ≤ 1
      exact Nat.le_refl _
    omega
  · show caps (ps.map ptP) + 3 ≤ 10000
    have := caps_all (n := 89) (l := ps.map ptP) fun d hd => by
      obtain ⟨x, _, rfl⟩ := List.mem_map.mp hd
      show 89 ≤ 89
      exact Nat.le_refl _
    rw [List.length_map] at this
    omega
  · have : PyData.hasDictAll (ps.map ptP) = false := flat_all fun d hd => by
      obtain ⟨x, _, rfl⟩ := List.mem_map.mp hd
      rfl
    have h : PyData.hasDictAll (ps.map ptP) = true := h
    rw [this] at h
    cases h
  · have e : ps.map ptP = ds := PyData.tuple.inj e
    subst e
    refine ⟨by rw [List.length_map]; omega, fun d hd es e2 _ f hf => ?_⟩
    obtain ⟨x, _, rfl⟩ := List.mem_map.mp hd
    have e2 : [PyData.int x.1, .int x.2] = es := PyData.tuple.inj e2
    subst e2
    rcases List.mem_cons.mp hf with rfl | hf
    · rfl
    · rw [List.mem_singleton.mp hf]
      rfl
  · have : okSs (ps.map ptP) := okSs_all fun d hd => by
      obtain ⟨x, _, rfl⟩ := List.mem_map.mp hd
      simp [ptP, okS, okSs]
    simpa [wP, okS] using this
  · have e : ps.map ptP = ds := PyData.tuple.inj e
    rw [← e, List.length_map]
    exact l
theorem ptB_ptP {d : PyData} (h : ptB d = true) : d = ptP (pd d) ∧ onP (pd d) = true := by
  obtain ⟨i, j, rfl, a, b, c, e⟩ := pt_of h
  refine ⟨rfl, ?_⟩
  show ((decide (0 ≤ i) && decide (i ≤ 30)) && (decide (0 ≤ j) && decide (j ≤ 30))) = true
  rw [decide_eq_true a, decide_eq_true b, decide_eq_true c, decide_eq_true e]
  rfl
theorem gd_w {L : Nat} {d : PyData} (g : Gd L d) (h : walkB d = true) : ∃ w, d = wP w ∧ OkW L w := by
  obtain ⟨ds, rfl⟩ : ∃ ds, d = .tuple ds := by
    cases d with
    | tuple ds => exact ⟨ds, rfl⟩
    | _ => cases h
  have l := g.2 ds rfl
  have h : (decide (2 ≤ ds.length) && (ds.all ptB && (nbs ds).all id)) = true := h
  simp only [Bool.and_eq_true, decide_eq_true_eq] at h
  obtain ⟨h1, h2, _⟩ := h
  have al := List.all_eq_true.mp h2
  refine ⟨ds.map pd, ?_, by rw [List.length_map]; exact h1, by rw [List.length_map]; exact l, fun x hx => ?_⟩
  · show PyData.tuple ds = .tuple ((ds.map pd).map ptP)
    congr 1
    rw [List.map_map]
    exact (List.map_congr_left (g := id) fun z hz => (ptB_ptP (al z hz)).1.symm).trans (List.map_id _) |>.symm
  · obtain ⟨z, hz, rfl⟩ := List.mem_map.mp hx
    exact (ptB_ptP (al z hz)).2
theorem wP_imm (w : List Pt) : imm (wP w) = true := imms_ps w
theorem split2 {α : Type} {l : List α} (h : 2 ≤ l.length) : ∃ u y z, l = u ++ [y, z] := by
  refine ⟨l.take (l.length - 2), l[l.length - 2], l[l.length - 1], ?_⟩
  have e1 : l = l.take (l.length - 2) ++ l.drop (l.length - 2) := (List.take_append_drop _ _).symm
  have e2 : l.drop (l.length - 2) = l[l.length - 2] :: l.drop (l.length - 2 + 1) := List.drop_eq_getElem_cons (by omega)
  have e3 : l.drop (l.length - 2 + 1) = l[l.length - 2 + 1]'(by omega) :: l.drop (l.length - 2 + 1 + 1) := List.drop_eq_getElem_cons (by omega)
  have e4 : l.drop (l.length - 2 + 1 + 1) = [] := List.drop_eq_nil_of_le (by omega)
  have e5 : l[l.length - 2 + 1]'(by omega) = l[l.length - 1] := by
    congr 1
    omega
  rw [e4, e5] at e3
  rw [e3] at e2
  rw [← e2]
  exact e1
section
variable {p : Addr} {σ : L2.St} {H0 : Hp} {c c1 c2 : Nat} {t u : TE} {R : PyData → Prop} {K : PySem.W.Frag}
def AllG (n : Nat) (G : PyData → Prop) (ds : List PyData) : Prop := ds.length = n ∧ ∀ d ∈ ds, G d
def LstG (n : Nat) (G : PyData → Prop) (d : PyData) : Prop := ∃ ds, d = .list ds ∧ AllG n G ds
theorem mkg_nil {G : PyData → Prop} : MakBA p 0 σ H0 tNil (AllG 0 G) := fun H Q m b bx hm q => mkb_nil H Q m b bx hm fun v d H' e => q v d H' (by rw [e]; exact ⟨rfl, fun d h => nomatch h⟩)
theorem mkg_cons {G : PyData → Prop} {n : Nat} {ts : TA} (h : MakB p c1 σ H0 t G) (k : MakBA p c2 σ H0 ts (AllG n G)) : MakBA p (c1 + c2) σ H0 (tCons t ts) (AllG (n + 1) G) := fun H Q m b bx hm q => mkb_cons h k H Q m b bx hm fun v d H' r => q v d H' (by
  obtain ⟨x, ds, rfl, g, l, a⟩ := r
  exact ⟨by rw [List.length_cons, l], fun y hy => (List.mem_cons.mp hy).elim (fun e => by rw [e]; exact g) (a y)⟩)
theorem mkg_lst {G : PyData → Prop} {n : Nat} {ts : TA} (h : MakBA p c σ H0 ts (AllG n G)) (l : n ≤ sizeLine := by exact Nat.le_of_ble_eq_true rfl) : MakB p c σ H0 (tLstS ts) (LstG n G) := mkb_lst h fun ds g => by rw [g.1]; exact l
theorem mkb_mak {d : PyData} (h : ∀ H, But p H0 H → Mak σ H t d) (im : imm d = true) : MakB p 0 σ H0 t (· = d) := fun H Q m b bx hm q =>
  mak_go (t := t) d (h H b) fun v H1 s1 dv => q v d H1 rfl (same_but s1) (bx.more s1) (dv_hid (bx.more s1) dv im)
theorem mkb_tl (h : MakB p c σ H0 t R) (hR : ∀ d, R d → ∃ ds, d = .tuple ds ∧ 1 ≤ ds.length) : MakB p c σ H0 (tSl (rSlT K) t (tPart (tC (.int 1))) tNoPart) (fun d => ∃ ds, d = .tuple (ds.drop 1) ∧ R (.tuple ds)) := fun H Q m b bx hm q =>
  h H _ m b bx hm fun v d H1 r1 b1 bx1 dv1 => by
    obtain ⟨ds, rfl, l⟩ := hR d r1
    obtain ⟨a, xs, rfl, ha, dx, na⟩ := dvh_tup dv1
    have ln := dx.length
    have e1 : HT.sIx xs.length 0 (some 1) = 1 := by
      show (if (1 : Int) < 0 then (1 + (xs.length : Int)).toNat else min (1 : Int).toNat xs.length) = 1
      rw [if_neg (by decide)]
      have : (1 : Int).toNat = 1 := rfl
      omega
    have ec : cutV xs (some 1) none = xs.drop 1 := by
      unfold cutV
      rw [e1]
      show (xs.drop 1).take (xs.length - 1) = xs.drop 1
      exact List.take_of_length_le (by rw [List.length_drop]; omega)
    refine ⟨1, rfl, a, xs, rfl, SqT.of ha, fun z => by rw [e1] at z; omega, fun g ng => ?_⟩
    rw [ec]
    have s : Same H1 (upd H1 g (.tup (xs.drop 1))) := fun b o e => stay e ng
    exact q _ _ _ ⟨ds, rfl, r1⟩ (but_more b1 s) (bx1.more s) (.tup (hid_of upd_same (bx1.ne ng) (.inl fun xs e => nomatch e)) ((dvs_drop 1 dx).more (hid_same s)))
/-- a walk made longer -/
theorem mkb_lon {i : Nat} {E : XK} (h : σ[i]? = some (some (.ref p))) (k : MakB p c σ H0 t R) (hR : ∀ d, R d → ∃ w, d = wP w ∧ OkW 1000 w) : MakB p (c + 1) σ H0 (tCall spLon [] E (tCons (tVar i) (tCons t tNil))) (fun d => ∃ w x, d = wP (w ++ [x]) ∧ R (wP w) ∧ onP x = true) := fun H Q m b bx hm q =>
  ⟨_, h, k H _ m b bx (by omega) fun v d H1 r1 b1 bx1 dv1 => by
    obtain ⟨w, rfl, l2, l1000, on⟩ := hR d r1
    obtain ⟨u, y, z, rfl⟩ := split2 l2
    rw [List.length_append] at l1000
    refine ⟨p, m + c, v, u, y, z, rfl, bx1, by omega, dv_of dv1, by omega, on, fun v' x H2 b2 bx2 ox dv2 => q v' _ H2 ⟨_, x, rfl, r1, ox⟩ (but_tr b1 b2) (bx2.le (by omega)) (dv_hid bx2 dv2 (wP_imm _))⟩⟩
theorem mkb_rev (h : MakB p c σ H0 t R) (hR : ∀ d, R d → ∃ ds, d = .tuple ds) : MakB p c σ H0 (tRv (rRvT K) t (tUn (rU fun i => V.int (-i)) (tC (.int 1)))) (fun d => ∃ ds, d = .tuple ds.reverse ∧ R (.tuple ds)) := fun H Q m b bx hm q =>
  h H _ m b bx hm fun v d H1 r1 b1 bx1 dv1 => by
    obtain ⟨ds, rfl⟩ := hR d r1
    obtain ⟨a, xs, rfl, ha, dx, na⟩ := dvh_tup dv1
    refine ⟨1, rfl, rfl, a, xs, rfl, SqT.of ha, fun g ng => ?_⟩
    have s : Same H1 (upd H1 g (.tup xs.reverse)) := fun b o e => stay e ng
    exact q _ _ _ ⟨ds, rfl, r1⟩ (but_more b1 s) (bx1.more s) (.tup (hid_of upd_same (bx1.ne ng) (.inl fun xs e => nomatch e)) ((dvs_rev dx).more (hid_same s)))
/-! slices of tuples, two tuples to one -/
theorem mak_head {ds : List PyData} (h : Mak σ H0 t (.tuple ds)) (two : 2 ≤ ds.length) : Mak σ H0 (tSl (rSlT K) t tNoPart (tPart (tC (.int 1)))) (.tuple (ds.take 1)) := fun H Q s q =>
  h H _ s fun v H1 s1 dv => by
    obtain ⟨a, xs, rfl, ha, dx⟩ := dv_tup dv
    have ln := dx.length
    have e1 : HT.sIx xs.length xs.length (some 1) = 1 := by
      show (if (1 : Int) < 0 then (1 + (xs.length : Int)).toNat else min (1 : Int).toNat xs.length) = 1
      rw [if_neg (by decide)]
      have : (1 : Int).toNat = 1 := rfl
      omega
    have ec : cutV xs none (some 1) = xs.take 1 := by
      unfold cutV
      rw [e1]
      rfl
    refine ⟨1, rfl, a, xs, rfl, SqT.of ha, fun z => by rw [e1] at z; omega, fun g ng => ?_⟩
    rw [ec]
    have s3 : Same H1 (upd H1 g (.tup (xs.take 1))) := fun b o e => stay e ng
    exact q _ _ (same_tr s1 s3) (.tup upd_same ((dvs_take 1 dx).more s3))
theorem mak_init {ds : List PyData} (h : Mak σ H0 t (.tuple ds)) (two : 2 ≤ ds.length) : Mak σ H0 (tSl (rSlT K) t tNoPart (tPart (tUn (rU fun i => V.int (-i)) (tC (.int 1))))) (.tuple (ds.take (ds.length - 1))) := fun H Q s q =>
  h H _ s fun v H1 s1 dv => by
    obtain ⟨a, xs, rfl, ha, dx⟩ := dv_tup dv
    have ln := dx.length
    obtain ⟨ec1, en1⟩ := cut_init xs (by omega)
    refine ⟨1, rfl, _, rfl, a, xs, rfl, SqT.of ha, en1, fun g ng => ?_⟩
    rw [ec1, ln]
    have s3 : Same H1 (upd H1 g (.tup (xs.take (ds.length - 1)))) := fun b o e => stay e ng
    exact q _ _ (same_tr s1 s3) (.tup upd_same ((dvs_take _ dx).more s3))
theorem mak_catT {ds es : List PyData} (h : Mak σ H0 t (.tuple ds)) (k : Mak σ H0 u (.tuple es)) (n1 : ds ≠ []) (n2 : es ≠ []) (l : ds.length + es.length ≤ 100000) : Mak σ H0 (tOp (rCatT K) t u) (.tuple (ds ++ es)) := fun H Q s q =>
  h H _ s fun v H1 s1 dv => k H1 _ (same_tr s s1) fun w H2 s2 dw => by
    obtain ⟨a, xs, rfl, ha, dx⟩ := dv_tup dv
    obtain ⟨b, ys, rfl, hb, dy⟩ := dv_tup dw
    have lx := dx.length
    have ly := dy.length
    refine ⟨a, b, xs, ys, rfl, rfl, SqT.of (s2 _ _ ha), SqT.of hb, fun e => ?_, Nat.le_trans (show _ ≤ 100000 by omega) (by decide), fun e => ?_, fun _ g ng => ?_⟩
    · rw [e] at lx
      exact n1 (List.length_eq_zero_iff.mp lx.symm)
    · rw [e] at ly
      exact absurd (List.length_eq_zero_iff.mp ly.symm) n2
    · have s3 : Same H2 (upd H2 g (.tup (xs ++ ys))) := fun b o e => stay e ng
      exact q _ _ (same_tr s1 (same_tr s2 s3)) (.tup upd_same (dvs_app ((dx.more s2).more s3) (dy.more s3)))
end
theorem ptP_inj {a b : Pt} (h : ptP a = ptP b) : a = b := by
  obtain ⟨x, y⟩ := a
  obtain ⟨u, v⟩ := b
  have h := PyData.tuple.inj h
  injection h with h1 h2
  injection h2 with h2 _
  have h1 : x = u := PyData.int.inj h1
  have h2 : y = v := PyData.int.inj h2
  rw [h1, h2]
theorem maps_inj : ∀ {a b : List Pt}, a.map ptP = b.map ptP → a = b
  | [], [], _ => rfl
  | [], _ :: _, h => by cases h
  | _ :: _, [], h => by cases h
  | x :: a, y :: b, h => by
    rw [List.map_cons, List.map_cons] at h
    injection h with h1 h2
    rw [ptP_inj h1, maps_inj h2]
theorem wP_inj {a b : List Pt} (h : wP a = wP b) : a = b := maps_inj (PyData.tuple.inj h)
theorem and_i {t u : TT} {σ : L2.St} {H : Hp} {Q : Bool → Hp → Prop} (h : t σ H fun c H1 => if c = true then u σ H1 Q else Q false H1) : tAnd t u σ H Q := h
def RowOk (L : Nat) (d : PyData) : Prop := ∃ n, n ≤ 3 ∧ LstG n (Gd (L + 1)) d
def spSpo : Sp := fun vs H Q _ => ∃ (p : Addr) (m : Nat) (S W O : Addr) (sd : List PyData) (fs : List (List Pt)) (od : List PyData) (L : Nat), vs = [.ref p, .ref S, .ref W, .ref O] ∧ BoxAt H p (m : Int) ∧ m ≤ 800000 ∧
  DV (hid p H) (.ref S) (.list sd) ∧ DV (hid p H) (.ref W) (.list (fs.map wP)) ∧ DV (hid p H) (.ref O) (.list od) ∧ od.length = 19 ∧ sd.length ≤ 200 ∧ fs.length ≤ 100 ∧ (∀ d ∈ sd, Gd L d) ∧ (∀ d ∈ od, Gd L d) ∧ (∀ w ∈ fs, OkW L w) ∧ (3 ≤ L ∧ L ≤ 90) ∧
  ∀ Z zd H', But p H H' → BoxAt H' p ((m + 30 : Nat) : Int) → DV (hid p H') (.ref Z) (.list zd) → zd.length ≤ sd.length + 3 → (∀ d ∈ zd, Gd (L + 1) d) → Q (.ref Z) H'
section
variable {P : Program} {w : World} {K : PySem.W.Frag} {mg : Str → Option Value} {base : Heap}
theorem scSpo : FnScope spoN ["_law_box_here", "_law_some", "_law_walks", "_law_odd"] (defScope (top 45)) := ⟨rfl, rfl, rfl, by decide +kernel, rfl, by decide +kernel, by decide +kernel⟩
theorem ok_spo {f : Addr} {fd : FuncData} (F : Fun K "_law_spoilt" "_law_spoilt" (top 45) f fd) (T : Ta mg)
    {fT : Addr} {fdT : FuncData} (GT : FnOk P w K mg base CX0 1 fT fdT ["_law_box_here", "_law_many"] spTake) (AT : At K mg "_law_take" fT fdT ["_law_box_here", "_law_many"])
    {fW : Addr} {fdW : FuncData} (GW : FnOk P w K mg base CX0 1 fW fdW ["_law_value"] spLW) (AW : At K mg "_law_is_walk" fW fdW ["_law_value"])
    {fL : Addr} {fdL : FuncData} (GL : FnOk P w K mg base CX0 2 fL fdL ["_law_box_here", "_law_walk"] spLon) (AL : At K mg "_law_longer" fL fdL ["_law_box_here", "_law_walk"]) : FnOk P w K mg base CX0 3 f fd ["_law_box_here", "_law_some", "_law_walks", "_law_odd"] spSpo := by
  refine F.ok scSpo (fun vs H Q E h => by obtain ⟨p, m, S, W, O, sd, fs, od, L, rfl, _⟩ := h; rfl) (fun cdv A outer s H vs Q E hr h => ?_)
  obtain ⟨p, m, S, W, O, sd, fs, od, L, rfl, bx, hm, dS, dW, dO, lo, ls, lf, gs, go, gf, lL, q⟩ := h
  refine ⟨_, (pss_cons (ps_par (i := 4) (j := 5) rfl scSpo.nd rfl rfl (by decide) rfl rfl (pa_cons (pe_call GT (hr.mono (by decide)) rfl AT.g AT.k AT.b .nil pass0 (pa_cons (pv 0) (pa_cons (pe_op op_add (pe_callB call_len_seq (by rfl) T.len PySem.boot_len (pa_cons (pv 1) pa_nil)) pe_int) pa_nil))) (pa_cons (pe_call GT (hr.mono (by decide)) rfl AT.g AT.k AT.b .nil pass0 (pa_cons (pv 0) (pa_cons pe_int pa_nil))) pa_nil)) (by rfl))
    (pss_cons (ps_set (i := 6) scSpo.nd rfl (by first | exact Or.inl rfl | exact Or.inr rfl) (pe_ix (r := rIxL K) (by exact ix_list) (pe_op op_catSN (pv 2) (pe_lstS (pa_cons (pe_tup (pa_cons (pe_tup (pa_cons pe_int (pa_cons pe_int pa_nil))) (pa_cons (pe_tup (pa_cons pe_int (pa_cons pe_int pa_nil))) (pa_cons (pe_tup (pa_cons pe_int (pa_cons pe_int pa_nil))) pa_nil)))) pa_nil))) (pe_call GT (hr.mono (by decide)) rfl AT.g AT.k AT.b .nil pass0 (pa_cons (pv 0) (pa_cons (pe_op op_add (pe_callB call_len_seq (by rfl) T.len PySem.boot_len (pa_cons (pv 2) pa_nil)) pe_int) pa_nil))) (fun _ _ => rfl)))
    (pss_cons (ps_if (PW.pt (pw_and (pt_cmpR op_lt (pv 4) (pe_callB call_len_seq (by rfl) T.len PySem.boot_len (pa_cons (pv 1) pa_nil)) (nomark _)) (pw_and (pt_cmpR op_eq (pe_call GT (hr.mono (by decide)) rfl AT.g AT.k AT.b .nil pass0 (pa_cons (pv 0) (pa_cons pe_int pa_nil))) pe_int (nomark _)) (pw_and1 (pt_val (pe_call GW (hr.mono (by decide)) rfl AW.g AW.k AW.b .nil pass0 (pa_cons (pe_ix (r := rIxL K) (by exact ix_list) (pv 1) (pv 4) (fun _ _ => rfl)) pa_nil))))))) (pss_one (ps_set (i := 6) scSpo.nd rfl (by first | exact Or.inl rfl | exact Or.inr rfl) (pe_ix (r := rIxL K) (by exact ix_list) (pv 1) (pv 4) (fun _ _ => rfl)))) pss_nil)
    (pss_cons (ps_set (i := 7) scSpo.nd rfl (by first | exact Or.inl rfl | exact Or.inr rfl) (pe_slice sl_tup (pe_call GL (hr.mono (by decide)) rfl AL.g AL.k AL.b .nil pass0 (pa_cons (pv 0) (pa_cons (pe_op op_catT (pe_slice sl_tup (pv 6) po_none (po_some pe_int)) (pe_slice sl_tup (pv 6) po_none (po_some (pe_un un_neg pe_int)))) pa_nil))) (po_some pe_int) po_none))
    (pss_cons (ps_set (i := 8) scSpo.nd rfl (by first | exact Or.inl rfl | exact Or.inr rfl) (pe_lstS (pa_cons (pe_lstS (pa_cons (pe_call GL (hr.mono (by decide)) rfl AL.g AL.k AL.b .nil pass0 (pa_cons (pv 0) (pa_cons (pv 6) pa_nil))) pa_nil)) (pa_cons (pe_lstS (pa_cons (pv 6) (pa_cons (pv 6) pa_nil))) (pa_cons (pe_lstS (pa_cons (pe_rev (by exact rv_tup) (pv 6) (pe_un un_neg pe_int)) pa_nil)) (pa_cons (pe_lstS pa_nil) pa_nil))))))
    (pss_cons (ps_set (i := 8) scSpo.nd rfl (by first | exact Or.inl rfl | exact Or.inr rfl) (pe_op op_catSN (pv 8) (pe_lstS (pa_cons (pe_lstS (pa_cons (pe_ix (r := rIxL K) (by exact ix_list) (pv 3) (pe_call GT (hr.mono (by decide)) rfl AT.g AT.k AT.b .nil pass0 (pa_cons (pv 0) (pa_cons pe_int pa_nil))) (fun _ _ => rfl)) (pa_cons (pv 6) pa_nil))) (pa_cons (pe_lstS (pa_cons (pv 6) (pa_cons (pv 6) (pa_cons (pe_ix (r := rIxL K) (by exact ix_list) (pv 3) (pe_call GT (hr.mono (by decide)) rfl AT.g AT.k AT.b .nil pass0 (pa_cons (pv 0) (pa_cons pe_int pa_nil))) (fun _ _ => rfl)) pa_nil)))) (pa_cons (pe_lstS (pa_cons (pv 7) pa_nil)) (pa_cons (pe_lstS (pa_cons (pv 7) (pa_cons (pv 6) pa_nil))) pa_nil)))))))
    (pss_one (ps_ret (pe_op op_catSN (pe_op op_catSN (pe_slice sl_list (pv 1) po_none (po_some (pv 4))) (pe_ix (r := rIxL K) (by exact ix_list) (pv 8) (pv 5) (fun _ _ => rfl))) (pe_slice sl_list (pv 1) (po_some (pe_op op_add (pv 4) pe_int)) po_none)))))))))), ?_⟩
  dsimp only
  obtain ⟨l3, l90⟩ := lL
  refine seq_i (par_i (cons_i (tk_i (p := p) rfl bx (by omega) (mak_op (g := fun i j => i + j) (mak_lenL (mak_var (i := 1) rfl (dv_of dS))) mak_int) (by omega) (by omega) fun r H1 r0 r1 bx1 b1 => cons_i (tk_i (p := p) rfl bx1 (by omega) mak_int (by omega) (by omega) fun k H2 k0 k1 bx2 b2 => nil_i ⟨_, _, rfl, ?_⟩))))
  dsimp only
  have b02 := but_tr b1 b2
  have dS2 := dvh_but b02 dS
  have dW2 := dvh_but b02 dW
  have dO2 := dvh_but b02 dO
  obtain ⟨rn, rfl⟩ : ∃ n : Nat, r = (n : Int) := ⟨r.toNat, by omega⟩
  obtain ⟨kn, rfl⟩ : ∃ n : Nat, k = (n : Int) := ⟨k.toNat, by omega⟩
  have w0 : OkW L [((0, 0) : Pt), (1, 0), (1, 1)] := ⟨by decide, l3, fun x hx => by
    simp only [List.mem_cons, List.not_mem_nil, or_false] at hx
    rcases hx with rfl | rfl | rfl <;> rfl⟩
  -- a walk
  refine rest2 (fun σ H3 => ∃ (v : V) (w : List Pt), σ = [some (.ref p), some (.ref S), some (.ref W), some (.ref O), some (.int rn), some (.int kn), some v, none, none] ∧ But p H H3 ∧ BoxAt H3 p ((m + 3 : Nat) : Int) ∧ DV (hid p H3) v (wP w) ∧ OkW L w) (fun X hX => asg_i ?_) ?_
  · refine mkb_go (R := fun d => ∃ w, d = wP w ∧ OkW L w) (m := m + 2) (c := 1) (mkb_weak (mkb_ixL (K := K) (mkb_cat (mkb_var (i := 2) rfl dW2) (mkb_lst (mkb_cons (mkb_mak (d := wP [(0, 0), (1, 0), (1, 1)]) (fun H b => ?_) (wP_imm _)) mkb_nil) ?_) ?_ ?_) (mkb_take (i := 0) rfl (mkb_mak (d := .int ((fs.length : Int) + 1)) (fun H b => ?_) rfl) ?_) ?_ ?_) ?_) (bx2.le (by omega)) (by omega) fun v d H3 hd b3 bx3 dv3 => ?_
    · exact mak_tup (mak_cons (mak_tup (mak_cons mak_int (mak_cons mak_int mak_nil))) (mak_cons (mak_tup (mak_cons mak_int (mak_cons mak_int mak_nil))) (mak_cons (mak_tup (mak_cons mak_int (mak_cons mak_int mak_nil))) mak_nil)))
    · rintro ds ⟨d, r, rfl, rfl, rfl⟩
      exact Nat.le_of_ble_eq_true rfl
    · rintro d rfl
      exact ⟨_, rfl, by rw [List.length_map]; omega⟩
    · rintro d ⟨ds, rfl, d, r, rfl, rfl, rfl⟩
      exact ⟨_, rfl, by decide⟩
    · have := mak_op (g := fun i j => i + j) (mak_lenL (K := K) (mak_var (σ := [some (.ref p), some (.ref S), some (V.ref W), some (.ref O), some (.int rn), some (.int kn), none, none, none]) (i := 2) rfl (dv_of (dvh_but b dW2)))) (mak_int (i := 1))
      rwa [List.length_map] at this
    · rintro d rfl
      exact ⟨_, rfl, by omega, by omega⟩
    · rintro d ⟨xs, ys, rfl, _⟩
      exact ⟨_, rfl⟩
    · rintro ds d ⟨xs, ys, e, e1, ⟨zs, e2, d', r', e3, e4, e5⟩⟩ ⟨r, n, rfl, e6, h0, h1⟩
      cases e
      cases e1
      cases e2
      cases e6
      subst e3 e4 e5
      refine ⟨r.toNat, by rw [Int.toNat_of_nonneg h0], ?_⟩
      rw [List.length_append, List.length_map]
      show r.toNat < fs.length + 1
      omega
    · rintro d ⟨ds, ⟨xs, ys, e, e1, ⟨zs, e2, d', r', e3, e4, e5⟩⟩, hd⟩
      cases e
      cases e1
      cases e2
      subst e3 e4 e5
      rcases List.mem_append.mp hd with h | h
      · obtain ⟨w, hw, rfl⟩ := List.mem_map.mp h
        exact ⟨w, rfl, gf w hw⟩
      · rw [List.mem_singleton.mp h]
        exact ⟨_, rfl, w0⟩
    · obtain ⟨w, rfl, ok⟩ := hd
      exact hX _ _ ⟨v, w, rfl, but_tr b02 b3, bx3.le (by omega), dv3, ok⟩
  rintro σ H3 ⟨v, w, rfl, b03, bx3, dv, ok⟩
  clear bx1 bx2 b1 b2 dS2 dW2 dO2
  have dS3 := dvh_but b03 dS
  -- or one of those at hand
  refine rest2 (fun σ H4 => ∃ (v : V) (w : List Pt), σ = [some (.ref p), some (.ref S), some (.ref W), some (.ref O), some (.int rn), some (.int kn), some v, none, none] ∧ But p H H4 ∧ BoxAt H4 p ((m + 4 : Nat) : Int) ∧ DV (hid p H4) v (wP w) ∧ OkW L w) (fun X hX => ifs_i (and_i ?_)) ?_
  · refine mkt_go (decide ((rn : Int) < (sd.length : Int))) (mkt_test (mak_opB (g := fun i j => decide (i < j)) (mak_var rfl (.int _)) (mak_lenL (mak_var (i := 1) rfl (dv_of dS3))))) fun H4 s4 => ?_
    have b04 := but_more b03 s4
    have bx4 := bx3.more s4
    have dv4 := dv.more (hid_same s4)
    by_cases c1 : rn < sd.length
    · refine ifT (decide_eq_true (by omega)) (and_i (test_i (op_i (tk_i (p := p) rfl bx4 (by omega) mak_int (by omega) (by omega) fun r5 H5 r50 r51 bx5 b5 => ⟨rfl, _, rfl, ?_⟩))))
      have b05 := but_tr b04 b5
      have dv5 := dvh_but b5 dv4
      by_cases c2 : r5 = 0
      · subst c2
        refine ifT rfl ?_
        obtain ⟨S', sv, eS, hS, dsv, nS, _⟩ := dvh_lst (dvh_but b05 dS)
        cases eS
        have hl : rn < sv.length := by rw [dsv.length]; exact c1
        obtain ⟨d, hd, dx⟩ := dsv.at rn sv[rn] (List.getElem?_eq_getElem hl)
        have gd := gs d (List.mem_of_getElem? hd)
        have at_ := atI_nat (List.getElem?_eq_getElem hl)
        refine ⟨_, rfl, _, rfl, S, sv, _, _, rfl, rfl, SqL.of hS, at_, _, d, rfl, dv_of dx, gd.1.ask, fun H6 s6 => ⟨_, rfl, ?_⟩⟩
        have b06 := but_more b05 s6
        have bx6 : BoxAt H6 p ((m + 4 : Nat) : Int) := (bx5.le (by omega)).more s6
        cases e : walkB d with
        | true =>
          obtain ⟨w', rfl, ok'⟩ := gd_w gd e
          exact ifT rfl (asg_i ⟨_, rfl, _, rfl, S, sv, _, _, rfl, rfl, SqL.of (s6 _ _ hS), at_, hX _ _ ⟨_, w', rfl, b06, bx6, dx.more (hid_same s6), ok'⟩⟩)
        | false => exact ifF rfl (next_i (hX _ _ ⟨v, w, rfl, b06, bx6, dv5.more (hid_same s6), ok⟩))
      · refine ifF (decide_eq_false fun e => c2 (V.int.inj e)) (ifF rfl (next_i (hX _ _ ⟨v, w, rfl, b05, bx5.le (by omega), dv5, ok⟩)))
    · refine ifF (decide_eq_false (by omega)) (ifF rfl (next_i (hX _ _ ⟨v, w, rfl, b04, bx4.le (by omega), dv4, ok⟩)))
  clear dv ok bx3 b03 dS3 v w
  rintro σ H3 ⟨v, w, rfl, b03, bx3, dv, ok⟩
  obtain ⟨ok1, ok2, ok3⟩ := id ok
  have gw : Gd (L + 1) (wP w) := gd_walk (by omega) (by omega) ok3
  -- led
  refine seq_i (asg_i ?_)
  have eW : wP (w.take 1 ++ w.take (w.length - 1)) = .tuple ((w.map ptP).take 1 ++ (w.map ptP).take ((w.map ptP).length - 1)) := by
    simp [wP, List.map_take]
  have lW : (w.take 1 ++ w.take (w.length - 1)).length = w.length := by
    rw [List.length_append, List.length_take, List.length_take]
    omega
  have oW : ∀ x ∈ w.take 1 ++ w.take (w.length - 1), onP x = true := fun x hx => (List.mem_append.mp hx).elim (fun h => ok3 x (List.mem_of_mem_take h)) fun h => ok3 x (List.mem_of_mem_take h)
  refine mkb_go (R := fun d => ∃ l, d = wP l ∧ l.length ≤ L ∧ ∀ x ∈ l, onP x = true) (m := m + 4) (c := 1) (mkb_weak (mkb_tl (K := K) (mkb_lon (i := 0) rfl (mkb_mak (d := wP (w.take 1 ++ w.take (w.length - 1))) (fun H' b' => ?_) (wP_imm _)) ?_) ?_) ?_) bx3 (by omega) fun vl dl H4 hl b4 bx4 dvl => ?_
  · rw [eW]
    have g : Mak [some (.ref p), some (.ref S), some (.ref W), some (.ref O), some (.int rn), some (.int kn), some v, none, none] H' (tVar 6) (.tuple (w.map ptP)) := mak_var rfl (dv_of (dvh_but b' dv))
    have lm : (w.map ptP).length = w.length := List.length_map _
    exact mak_catT (mak_head g (by omega)) (mak_init g (by omega)) (fun e => by have := congrArg List.length e; rw [List.length_take, List.length_nil] at this; omega) (fun e => by have := congrArg List.length e; rw [List.length_take, List.length_nil] at this; omega) (by rw [List.length_take, List.length_take]; omega)
  · rintro d rfl
    exact ⟨_, rfl, by omega, by omega, oW⟩
  · rintro d ⟨l, x, rfl, _, _⟩
    exact ⟨_, rfl, by rw [List.length_map, List.length_append, List.length_cons]; omega⟩
  · rintro d ⟨ds, rfl, l, x, e, e2, ox⟩
    have e := PyData.tuple.inj e
    have e2 := wP_inj e2
    subst e e2
    refine ⟨((w.take 1 ++ w.take (w.length - 1)) ++ [x]).drop 1, ?_, ?_, fun y hy => ?_⟩
    · show _ = PyData.tuple _
      rw [← List.map_drop]
    · rw [List.length_drop, List.length_append, lW, List.length_cons, List.length_nil]
      omega
    · rcases List.mem_append.mp (List.mem_of_mem_drop hy) with h | h
      · exact oW y h
      · rw [List.mem_singleton.mp h]
        exact ox
  obtain ⟨led, rfl, ll, ol⟩ := hl
  have gl : Gd (L + 1) (wP led) := gd_walk (by omega) (by omega) ol
  dsimp only [gName]
  have b04 := but_tr b03 b4
  have dv4 := dvh_but b4 dv
  clear dv bx3 b03 b4
  -- the rows
  refine seq_i (asg_i ?_)
  have V6 : ∀ {H' : Hp}, But p H4 H' → MakB p 0 [some (.ref p), some (.ref S), some (.ref W), some (.ref O), some (.int rn), some (.int kn), some v, some vl, none] H' (tVar 6) (· = wP w) := fun b => mkb_var rfl (dvh_but b dv4)
  have G6 : ∀ {H' : Hp}, But p H4 H' → MakB p 0 [some (.ref p), some (.ref S), some (.ref W), some (.ref O), some (.int rn), some (.int kn), some v, some vl, none] H' (tVar 6) (Gd (L + 1)) := fun b => mkb_weak (V6 b) fun d e => by rw [e]; exact gw
  have B0 := but0 p H4
  refine mkb_go (R := LstG 4 (RowOk L)) (m := m + 5) (c := 1) (mkg_lst (mkg_cons (mkb_weak (mkg_lst (mkg_cons (mkb_weak (mkb_lon (i := 0) rfl (V6 B0) ?_) ?_) mkg_nil)) (fun d h => ⟨1, by decide, h⟩)) (mkg_cons (mkb_weak (mkg_lst (mkg_cons (G6 B0) (mkg_cons (G6 B0) mkg_nil))) (fun d h => ⟨2, by decide, h⟩)) (mkg_cons (mkb_weak (mkg_lst (mkg_cons (mkb_weak (mkb_rev (K := K) (V6 B0) ?_) ?_) mkg_nil)) (fun d h => ⟨1, by decide, h⟩)) (mkg_cons (mkb_weak (mkg_lst mkg_nil) (fun d h => ⟨0, by decide, h⟩)) mkg_nil))))) bx4 (by omega) fun vr dr H5 hr5 b5 bx5 dvr => ?_
  · rintro d rfl
    exact ⟨_, rfl, by omega, by omega, ok3⟩
  · rintro d ⟨l, x, rfl, e, ox⟩
    have e := wP_inj e
    subst e
    refine gd_walk (by rw [List.length_append, List.length_cons, List.length_nil]; omega) (by omega) fun y hy => ?_
    rcases List.mem_append.mp hy with h | h
    · exact ok3 y h
    · rw [List.mem_singleton.mp h]
      exact ox
  · rintro d rfl
    exact ⟨_, rfl⟩
  · rintro d ⟨ds, rfl, e⟩
    have e := PyData.tuple.inj e
    subst e
    rw [← List.map_reverse]
    exact gd_walk (by rw [List.length_reverse]; omega) (by omega) fun y hy => ok3 y (List.mem_reverse.mp hy)
  dsimp only [gName]
  have b05 := but_tr b04 b5
  -- more rows
  refine seq_i (asg_i ?_)
  have dv5 := dvh_but b5 dv4
  have dvl5 := dvh_but b5 dvl
  have dO5 := dvh_but b05 dO
  have B5 := but0 p H5
  have G6 : MakB p 0 [some (.ref p), some (.ref S), some (.ref W), some (.ref O), some (.int rn), some (.int kn), some v, some vl, some vr] H5 (tVar 6) (Gd (L + 1)) := mkb_weak (mkb_var rfl dv5) fun d e => by rw [e]; exact gw
  have G7 : MakB p 0 [some (.ref p), some (.ref S), some (.ref W), some (.ref O), some (.int rn), some (.int kn), some v, some vl, some vr] H5 (tVar 7) (Gd (L + 1)) := mkb_weak (mkb_var rfl dvl5) fun d e => by rw [e]; exact gl
  have GO : MakB p 1 [some (.ref p), some (.ref S), some (.ref W), some (.ref O), some (.int rn), some (.int kn), some v, some vl, some vr] H5 (tOp (rIxL K) (tVar 3) (tCall spTake [] E0 (tCons (tVar 0) (tCons (tC (.int 19)) tNil)))) (Gd (L + 1)) := by
    refine mkb_weak (mkb_ixL (mkb_var (i := 3) rfl dO5) (mkb_take (i := 0) rfl mkb_int ?_) ?_ ?_) ?_
    · rintro d rfl
      exact ⟨_, rfl, by decide, by decide⟩
    · rintro d rfl
      exact ⟨_, rfl⟩
    · rintro ds d e ⟨r, n, rfl, e2, h0, h1⟩
      cases e
      cases e2
      exact ⟨r.toNat, by rw [Int.toNat_of_nonneg h0], by omega⟩
    · rintro d ⟨ds, e, hd⟩
      cases e
      exact (go d hd).le (by omega)
  refine mkb_go (R := LstG 8 (RowOk L)) (m := m + 6) (c := 2) (mkb_weak (mkb_cat (S := LstG 4 (RowOk L)) (mkb_var (i := 8) rfl dvr) (mkg_lst (mkg_cons (mkb_weak (mkg_lst (mkg_cons GO (mkg_cons G6 mkg_nil))) (fun d h => ⟨2, by decide, h⟩)) (mkg_cons (mkb_weak (mkg_lst (mkg_cons G6 (mkg_cons G6 (mkg_cons GO mkg_nil)))) (fun d h => ⟨3, by decide, h⟩)) (mkg_cons (mkb_weak (mkg_lst (mkg_cons G7 mkg_nil)) (fun d h => ⟨1, by decide, h⟩)) (mkg_cons (mkb_weak (mkg_lst (mkg_cons G7 (mkg_cons G6 mkg_nil))) (fun d h => ⟨2, by decide, h⟩)) mkg_nil))))) ?_ ?_) ?_) bx5 (by omega) fun v8 d8 H6 hd8 b6 bx6 dv8 => ?_
  · rintro d rfl
    obtain ⟨ds, e, l, _⟩ := hr5
    exact ⟨ds, e, by rw [l]; decide⟩
  · rintro d ⟨ds, e, l, _⟩
    exact ⟨ds, e, by rw [l]; decide⟩
  · rintro d ⟨xs, ys, rfl, e, ⟨zs, e2, l2, a2⟩⟩
    obtain ⟨ws, e3, l3', a3⟩ := hr5
    rw [e3] at e
    cases e
    cases e2
    refine ⟨_, rfl, by rw [List.length_append, l2, l3'], fun d hd => (List.mem_append.mp hd).elim (a3 d) (a2 d)⟩
  obtain ⟨rows, rfl, lr, ar⟩ := hd8
  dsimp only [gName]
  have b06 := but_tr b05 b6
  clear G6 G7 GO V6 dv5 dvl5 dO5 dvr hr5 dv4 dvl
  -- and together
  obtain ⟨S', sv, eS, hS, dsv, nS, _⟩ := dvh_lst (dvh_but b06 dS)
  cases eS
  obtain ⟨Rw, rv, rfl, hRw, drv, nRw, _⟩ := dvh_lst dv8
  have lsv := dsv.length
  have lrv := drv.length
  have hk : kn < rv.length := by omega
  obtain ⟨dr, hdr, dxr⟩ := drv.at kn rv[kn] (List.getElem?_eq_getElem hk)
  obtain ⟨n, n3, items, rfl, li, ai⟩ := ar dr (List.mem_of_getElem? hdr)
  obtain ⟨r', iv, er', hr', div, nr', _⟩ := dvh_lst dxr
  have liv := div.length
  refine ret_i (op_i (op_i ⟨_, rfl, _, rfl, _, rfl, S, sv, rfl, SqL.of hS, fun B1 nB1 => ?_⟩))
  have s7 : Same H6 (upd H6 B1 (.lst (cutV sv none (some (rn : Int))))) := fun b o e => stay e nB1
  have hB1 : upd H6 B1 (.lst (cutV sv none (some (rn : Int)))) B1 = some (.lst (cutV sv none (some (rn : Int)))) := upd_same
  generalize upd H6 B1 (.lst (cutV sv none (some (rn : Int)))) = H7 at s7 hB1
  have c1 : cutV sv none (some (rn : Int)) = sv.take rn := by
    unfold cutV
    rw [HT.sIx_nat, HT.sIx_none, List.drop_zero, Nat.sub_zero]
    rw [show min rn sv.length = rn by omega]
  rw [c1] at hB1
  refine ⟨_, rfl, _, rfl, Rw, rv, _, _, rfl, rfl, SqL.of (s7 _ _ hRw), atI_nat (List.getElem?_eq_getElem hk), ?_⟩
  rw [er']
  refine ⟨B1, r', _, iv, rfl, rfl, hB1, s7 _ _ hr', Nat.le_trans (show (sv.take rn).length + iv.length ≤ 1000 by rw [List.length_take, liv, li]; omega) (by decide), fun Z1 nZ1 _ => ?_⟩
  have s8 : Same H7 (upd H7 Z1 (.lst (sv.take rn ++ iv))) := fun b o e => stay e nZ1
  have hZ1 : upd H7 Z1 (.lst (sv.take rn ++ iv)) Z1 = some (.lst (sv.take rn ++ iv)) := upd_same
  generalize upd H7 Z1 (.lst (sv.take rn ++ iv)) = H8 at s8 hZ1
  have s68 := same_tr s7 s8
  refine ⟨_, rfl, _, rfl, _, _, rfl, rfl, _, rfl, S, sv, rfl, SqL.of (s68 _ _ hS), fun B2 nB2 => ?_⟩
  have s9 : Same H8 (upd H8 B2 (.lst (cutV sv (some ((rn : Int) + 1)) none))) := fun b o e => stay e nB2
  have hB2 : upd H8 B2 (.lst (cutV sv (some ((rn : Int) + 1)) none)) B2 = some (.lst (cutV sv (some ((rn : Int) + 1)) none)) := upd_same
  generalize upd H8 B2 (.lst (cutV sv (some ((rn : Int) + 1)) none)) = H9 at s9 hB2
  have c2 : cutV sv (some ((rn : Int) + 1)) none = sv.drop (rn + 1) := by
    have e1 : ((rn : Int) + 1) = ((rn + 1 : Nat) : Int) := by omega
    unfold cutV
    rw [e1, HT.sIx_nat, HT.sIx_none]
    by_cases c : rn + 1 ≤ sv.length
    · rw [show min (rn + 1) sv.length = rn + 1 by omega]
      exact List.take_of_length_le (by rw [List.length_drop]; omega)
    · rw [show min (rn + 1) sv.length = sv.length by omega, List.drop_length, List.drop_eq_nil_of_le (by omega)]
      simp
  rw [c2] at hB2
  refine ⟨Z1, B2, _, _, rfl, rfl, s9 _ _ hZ1, hB2, Nat.le_trans (show (sv.take rn ++ iv).length + (sv.drop (rn + 1)).length ≤ 1000 by rw [List.length_append, List.length_take, List.length_drop, liv, li]; omega) (by decide), fun Z nZ nsZ => ?_⟩
  have s10 : Same H9 (upd H9 Z (.lst ((sv.take rn ++ iv) ++ sv.drop (rn + 1)))) := fun b o e => stay e nZ
  have s6z := same_tr s68 (same_tr s9 s10)
  have bx9 := (bx6.more s68).more s9
  refine q Z ((sd.take rn ++ items) ++ sd.drop (rn + 1)) _ (but_more b06 s6z) ((bx9.le (by omega)).more s10) (.lst (hid_of upd_same (bx9.ne nZ) (.inr nsZ)) (dvs_app (dvs_app ((dvs_take rn dsv).more (hid_same s6z)) (div.more (hid_same s6z))) ((dvs_drop (rn + 1) dsv).more (hid_same s6z)))) ?_ ?_
  · rw [List.length_append, List.length_append, List.length_take, List.length_drop, li]
    omega
  · intro d hd
    rcases List.mem_append.mp hd with h | h
    · rcases List.mem_append.mp h with h | h
      · exact (gs d (List.mem_of_mem_take h)).le (by omega)
      · exact ai d h
    · exact (gs d (List.mem_of_mem_drop h)).le (by omega)

end
end Y1
set_option Elab.async false
set_option linter.all false
set_option maxRecDepth 100000
set_option maxHeartbeats 16000000
/-! Figure(), made of its default. -/
namespace Y1
open PySem PySem.Spec PyProof.Rows L2 Nv
theorem pass0E {X : Cx} {σ : L2.St} : PassesAt CX0 X σ E0 := fun _ _ _ _ _ _ z => z.elim
/-- an empty tuple of the module -/
structure KEmp (K : PySem.W.Frag) (e : Addr) : Prop where
  ty : ∀ H, TyX K H (.ref e) (.type "tuple")
  sq : ∀ H, SqT K H e []
def spChk0 (K : PySem.W.Frag) : Sp := fun vs H Q _ => ∃ e, vs = [.ref e] ∧ KEmp K e ∧ ∀ h H', Same H H' → H' h = some (.dK []) → Q (.ref h) H'
def spFig0 (K : PySem.W.Frag) (CF : Addr) : Sp := fun vs H Q _ => ∃ e x dx, vs = [.ref x, .ref e] ∧ KEmp K e ∧ H x = some (.ins CF dx []) ∧ ∀ H', But x H H' → FigAt CF H' x [] → Q .non H'
theorem seqs_tup {K : PySem.W.Frag} : PySem.W.kitAny K (.type "tuple") seqs = some true := by
  have e1 : PySem.W.kitOne K (.type "tuple") (.type "list") = some false := kit_ty (by decide +kernel)
  have e2 : PySem.W.kitOne K (.type "tuple") (.type "tuple") = some true := rfl
  simp only [seqs, PySem.W.kitAny, e1, e2]
section
variable {P : Program} {w : World} {K : PySem.W.Frag} {mg : Str → Option Value} {base : Heap} {C CT CF CH fI : Addr} {fdI : FuncData}
theorem ok_chk0 {f fE fA : Addr} {fd fdE fdA : FuncData} (F : Fun K "_checked" "_checked" (top 27) f fd) (T : Ta mg) (TL : mg "list" = none) (X : Tie K mg C fI) (GI : FnOk P w K mg base CX0 1 fI fdI ["self", "value"] (spIni K)) (bI : Binds K fdI ["self", "value"] [])
    (GE : FnOk P w K mg base CX0 3 fE fdE ["value"] spNum) (AE : At K mg "edge_number" fE fdE ["value"]) (GA : FnOk P w K mg base CX0 1 fA fdA ["held"] spAsc) (AA : At K mg "_ascending" fA fdA ["held"]) :
    FnOk P w K mg base CX0 4 f fd ["edges"] (spChk0 K) := by
  refine F.ok scCk (fun vs H Q E h => by obtain ⟨e, rfl, _⟩ := h; rfl) (fun cdv A outer s H vs Q E hr h => ?_)
  obtain ⟨e, rfl, ke, q⟩ := h
  have hu1 : (A.deeper (envOfC "_checked" (defScope (top 27)) s.heap.objs.size f cdv)).units + 1 < cLine := by
    have := hr.un
    omega
  refine ⟨_, (pss_cons (ps_if (pt_not (pt_val (pe_callB call_isiT (by rfl) T.isi (by decide +kernel) (pa_cons (pv 0) (pa_cons (pe_tup (pa_cons (pe_bltn (v := .ty "list") (u := .type "list") (by rfl) TL (by decide +kernel) rfl) (pa_cons (pe_bltn (v := .ty "tuple") (u := .type "tuple") (by rfl) T.tup (by decide +kernel) rfl) pa_nil))) pa_nil))))) (pss_one (L2N.ps_raise rfl takesN0 (pmk_mkx X.xc.mx GI (hr.mono (by decide)) bI rfl X.gl (pv 0)))) pss_nil)
    (pss_cons (ps_set (i := 1) scCk.nd rfl (Or.inl rfl) pe_dnewK)
    (pss_cons (ps_for PassesOwn.never rfl (pi_or (pi_list (pv 0)) (pi_tup (pv 0))) (pg_name (i := 2) scCk.nd rfl (Or.inl rfl))
      (pss_cons (ps_set (i := 3) scCk.nd rfl (Or.inl rfl) (pe_call GE hr rfl AE.g AE.k AE.b .nil pass0 (pa_cons (pv 2) pa_nil)))
      (pss_cons (ps_if (pt_cmpR op_isN (pv 3) pe_non (nomark _)) (pss_one (L2N.ps_raise rfl takesN0 (pmk_mkx X.xc.mx GI (hr.mono (by decide)) bI rfl X.gl (pv 0)))) pss_nil)
      (pss_one (ps_dput hu1 (pv 1) (pv 3) (pv 2) (by rfl))))))
    (pss_one (ps_ret (pe_call GA (hr.mono (by decide)) rfl AA.g AA.k AA.b .nil pass0 (pa_cons (pv 1) pa_nil))))))), ?_⟩
  refine ⟨_, rfl, (by show 2 ≤ sizeLine; decide), fun tp ntp => ⟨.ref e, tp, _, .type "tuple", seqs, true, rfl, upd_same, .cons (.ty _) (.cons (.ty _) .nil), ke.ty _, seqs_tup, _, rfl, ?_⟩⟩
  have s1 : Same H (upd H tp (.tup [.ty "list", .ty "tuple"])) := fun b o z => stay z ntp
  generalize upd H tp (.tup [.ty "list", .ty "tuple"]) = H1 at s1
  refine fun D nD => ?_
  have s2 : Same H1 (upd H1 D (.dK [])) := fun b o z => stay z nD
  have hD : upd H1 D (.dK []) D = some (.dK []) := upd_same
  generalize upd H1 D (.dK []) = H2 at s2 hD
  refine .inr ⟨_, rfl, e, rfl, ⟨_, ke.sq _⟩, fun i m σ' H' => i = 0 ∧ σ' = [some (.ref e), some (.ref D), none, none] ∧ H' = H2, ⟨0, rfl, rfl, rfl⟩, ?_⟩
  rintro i m σ' H' ⟨rfl, rfl, rfl⟩
  refine .inl ⟨⟨[], ke.sq _, Nat.le_refl _⟩, ?_⟩
  refine ⟨_, rfl, D, [], [], rfl, hD, rfl, List.nodup_nil, Nat.zero_le _, fun h' kvs' H'' s4 hk pm st => ?_⟩
  have := pm.eq_nil
  subst this
  exact q h' H'' (same_tr (same_tr s1 s2) s4) hk
theorem ok_fig0 {dvs : List V} {kws : List (Str × V)} {f fC : Addr} {fd fdC : FuncData} (F : FunD K "__init__" "Figure.__init__" (defArgs (inClass (top 24) 0)) (defBody (inClass (top 24) 0)) (defScope (inClass (top 24) 0)) dvs kws f fd) (T : Ta mg) (X : Tie K mg C fI) (XT : Ttl K mg CT fI) (Z : Kf K mg CF CH) (GI : FnOk P w K mg base CX0 1 fI fdI ["self", "value"] (spIni K)) (bI : Binds K fdI ["self", "value"] [])
    (GC : FnOk P w K mg base CX0 4 fC fdC ["edges"] (spChk0 K)) (AC : At K mg "_checked" fC fdC ["edges"]) :
    FnOk P w K mg base CX0 5 f fd ["self", "edges"] (spFig0 K CF) := by
  refine F.ok scFi (fun vs H Q E h => by obtain ⟨e, x, dx, rfl, _⟩ := h; rfl) (fun cdv A outer s H vs Q E hr h => ?_)
  obtain ⟨e, x, dx, rfl, ke, hx, q⟩ := h
  obtain ⟨tM, hM⟩ := Z.most
  refine ⟨_, (pss_cons (ps_set (i := 2) scFi.nd rfl (Or.inl rfl) (pe_ifExp (pt_val (pe_callB call_isi (by rfl) T.isi (by decide +kernel) (pa_cons (pv 1) (pa_cons (pe_glob (v := .ref CH) rfl Z.gH rfl) pa_nil)))) (pe_fld (pv 1) (by rfl)) (pe_callS GC hr rfl AC.g AC.k AC.b (fun _ => pass0E) (pa_cons (pv 1) pa_nil))))
    (pss_cons (ps_if (pt_cmpR op_gt (pe_callB call_lenD (by rfl) T.len (by decide +kernel) (pa_cons (pv 2) pa_nil)) (pe_glob (v := .int 400) rfl hM ⟨_, rfl⟩) (nomark _)) (pss_one (L2N.ps_raise rfl takesN0 (pmk_mkx XT.xc.mx GI (hr.mono (by decide)) bI rfl XT.gl (pe_callB call_lenD (by rfl) T.len (by decide +kernel) (pa_cons (pv 2) pa_nil))))) pss_nil)
    (pss_cons (ps_fld (pv 0) (pe_tupVals rfl (by rfl) T.tup (pv 2)) (by rfl))
    (pss_cons (ps_fld (pv 0) (pv 2) (by rfl)) (pss_cons (ps_fld (pv 0) pe_non (by rfl)) (pss_cons (ps_fld (pv 0) pe_non (by rfl)) (pss_one (ps_fld (pv 0) pe_non (by rfl))))))))), ?_⟩
  refine ⟨_, rfl, _, .ref CH, .type "tuple", .ref CH, _, rfl, .own _, ke.ty _, Z.heldT "tuple" (by decide), _, rfl, ?_⟩
  refine ⟨_, rfl, e, rfl, ke, fun h H1 s1 hk => ?_⟩
  have hx1 := s1 _ _ hx
  refine ⟨_, rfl, h, [], rfl, hk, _, _, rfl, rfl, _, rfl, ?_⟩
  refine ifF (decide_eq_false (by show ¬ ((0 : Int) > 400); decide)) ?_
  refine ⟨_, rfl, h, [], rfl, hk, fun tt nt => ⟨_, rfl, x, CF, dx, [], rfl, stay hx1 nt, Z.cls, Z.nE, (by decide), ?_⟩⟩
  have ne : x ≠ tt := ne_of_none hx1 nt
  have ne2 : h ≠ x := fun e => by rw [e, hx1] at hk; cases hk
  have ne3 : h ≠ tt := ne_of_none hk nt
  refine ⟨_, rfl, _, rfl, x, CF, dx, _, rfl, upd_same, Z.cls, Z.nH, (by show 1 < 1000; decide), ?_⟩
  refine ⟨_, rfl, x, CF, dx, _, rfl, upd_same, Z.cls, Z.nL, (by show 2 < 1000; decide), ?_⟩
  refine ⟨_, rfl, x, CF, dx, _, rfl, upd_same, Z.cls, Z.nF, (by show 3 < 1000; decide), ?_⟩
  refine ⟨_, rfl, x, CF, dx, _, rfl, upd_same, Z.cls, Z.nG, (by show 4 < 1000; decide), ?_⟩
  refine q _ (fun c o nc e => ?_) ⟨dx, tt, h, upd_same, ?_, ?_⟩
  · rw [upd_ne nc, upd_ne nc, upd_ne nc, upd_ne nc, upd_ne nc]
    exact stay (s1 _ _ e) nt
  · rw [upd_ne ne.symm, upd_ne ne.symm, upd_ne ne.symm, upd_ne ne.symm, upd_ne ne.symm]
    exact upd_same
  · rw [upd_ne ne2, upd_ne ne2, upd_ne ne2, upd_ne ne2, upd_ne ne2]
    exact stay hk nt
end
end Y1
set_option Elab.async false
set_option linter.all false
set_option maxRecDepth 100000
set_option maxHeartbeats 16000000
/-! What the law hands. -/
namespace Y1
open PySem PySem.Spec PyProof.Rows L2 Nv
/-! ### walks that pass every edge once -/
theorem runE_all {es : List Eg} : ∀ {st u : List Eg}, (u ++ st).Nodup → (∀ e ∈ st, e ∈ es) → runE es st u = some (u ++ st)
  | [], u, _, _ => by rw [List.append_nil]; rfl
  | e :: r, u, nd, m => by
    have e1 : u ++ e :: r = (u ++ [e]) ++ r := by simp
    have ne : e ∉ u := fun h => by
      rw [List.nodup_append] at nd
      exact nd.2.2 e h e List.mem_cons_self rfl
    show (if e ∈ es ∧ e ∉ u then runE es r (u ++ [e]) else none) = _
    rw [if_pos ⟨m e List.mem_cons_self, ne⟩, e1]
    rw [e1] at nd
    exact runE_all nd fun x hx => m x (List.mem_cons_of_mem _ hx)
theorem runW_all {es : List Eg} : ∀ {ws : List PyData} {i : Nat} {u : List Eg}, (u ++ ws.flatMap wEds).Nodup → (∀ e ∈ ws.flatMap wEds, e ∈ es) → runW es ws i u = .inr (u ++ ws.flatMap wEds)
  | [], i, u, _, _ => by rw [List.flatMap_nil, List.append_nil]; rfl
  | w :: r, i, u, nd, m => by
    rw [List.flatMap_cons, ← List.append_assoc] at nd
    rw [List.flatMap_cons, ← List.append_assoc]
    rw [List.flatMap_cons] at m
    have h1 : runE es (wEds w) u = some (u ++ wEds w) := runE_all (by rw [List.nodup_append] at nd; exact nd.1) fun e he => m e (List.mem_append_left _ he)
    rw [runW_cons]
    unfold goW
    rw [h1]
    exact runW_all nd fun e he => m e (List.mem_append_right _ he)
theorem flat_wE (fs : List (List Pt)) : (fs.map wP).flatMap wEds = fs.flatMap wE := by
  rw [List.flatMap_map]
  rfl
theorem divided_ok {es : List Eg} {fs : List (List Pt)} (nd : es.Nodup) (pm : (fs.flatMap wE).Perm es) : faultO es (fs.map wP) = none := by
  unfold faultO
  have h := runW_all (es := es) (ws := fs.map wP) (i := 0) (u := []) (by rw [flat_wE, List.nil_append]; exact pm.nodup_iff.mpr nd) (by rw [flat_wE]; exact fun e he => pm.mem_iff.mp he)
  rw [h, flat_wE, List.nil_append]
  show (if (fs.flatMap wE).length = es.length then _ else _) = _
  rw [if_pos pm.length_eq]
theorem ans_div {es : List Eg} {fs : List (List Pt)} (nd : es.Nodup) (pm : (fs.flatMap wE).Perm es) (ok : ∀ w ∈ fs, walkB (wP w) = true) : ansK es (fs.map wP) = (("told" : Str), ("None" : Str)) := by
  unfold ansK
  rw [List.find?_eq_none.mpr fun d hd => by
    obtain ⟨w, hw, rfl⟩ := List.mem_map.mp hd
    rw [ok w hw]
    decide]
  rw [divided_ok nd pm]
  rfl
theorem ans_nil : ansK [] [] = (("told" : Str), ("None" : Str)) := rfl
/-! ### what may be handed -/
theorem Hand.more {K : PySem.W.Frag} {CF : Addr} {es : List Eg} {H H' : Hp} {v : V} {a : Str × Str} (s : Same H H') (h : Hand K CF es H v a) : Hand K CF es H' v a := by
  cases h with
  | odd ty no sh => exact .odd (TyX.more ty s) no (sh.more s)
  | seq ty yes h ho dv ask it l => exact .seq (TyX.more ty s) yes (s _ _ h) ho (dv.more s) ask it l
theorem hand_list {K : PySem.W.Frag} {CF : Addr} {es : List Eg} {H : Hp} {v : V} {ds : List PyData} (dv : DV H v (.list ds)) (ask : ∀ d ∈ ds, askW d) (it : ∀ d ∈ ds, walkB d = false → Itm d) (l : ds.length ≤ 500) : Hand K CF es H v (ansK es ds) := by
  obtain ⟨a, xs, rfl, ha, dx⟩ := dv_lst dv
  exact .seq (.base (.lst ha)) rfl ha (.inl rfl) dx ask it l
theorem hand_tup {K : PySem.W.Frag} {CF : Addr} {es : List Eg} {H : Hp} {v : V} {ds : List PyData} (dv : DV H v (.tuple ds)) (ask : ∀ d ∈ ds, askW d) (it : ∀ d ∈ ds, walkB d = false → Itm d) (l : ds.length ≤ 500) : Hand K CF es H v (ansK es ds) := by
  obtain ⟨a, xs, rfl, ha, dx⟩ := dv_tup dv
  exact .seq (.base (.tup ha)) seqs_tup ha (.inr rfl) dx ask it l
def seqish : PyData → Bool
  | .list _ => true
  | .tuple _ => true
  | _ => false
theorem seqs_no {K : PySem.W.Frag} {d : PyData} (h : seqish d = false) : PySem.W.kitAny K (.type (tyN d)) seqs = some false := by
  have a : ∀ n, kitB n "list" = some false → kitB n "tuple" = some false → PySem.W.kitAny K (.type n) seqs = some false := fun n h1 h2 => by
    have e1 : PySem.W.kitOne K (.type n) (.type "list") = some false := kit_ty h1
    have e2 : PySem.W.kitOne K (.type n) (.type "tuple") = some false := kit_ty h2
    simp only [seqs, PySem.W.kitAny, e1, e2]
  cases d with
  | none => exact a "NoneType" (by decide +kernel) (by decide +kernel)
  | bool b => exact a "bool" (by decide +kernel) (by decide +kernel)
  | int i => exact a "int" (by decide +kernel) (by decide +kernel)
  | str x => exact a "str" (by decide +kernel) (by decide +kernel)
  | dict l => exact a "dict" (by decide +kernel) (by decide +kernel)
  | list l => cases h
  | tuple l => cases h
theorem hand_odd {K : PySem.W.Frag} {CF : Addr} {es : List Eg} {H : Hp} {v : V} {d : PyData} (dv : DV H v d) (h : seqish d = false) (n : Nice d) (t : okS d) : Hand K CF es H v (("walks" : Str), d.shown) := .odd (ty_of dv) (seqs_no h) (.dat dv n t)
theorem hand_fig {K : PySem.W.Frag} {mg : Str → Option Value} {CF CH : Addr} (Z : Kf K mg CF CH) {es fs : List Eg} {H : Hp} {x : Addr} (f : FigE CF H x fs) (l : fs.length ≤ 400) : Hand K CF es H (.ref x) (("walks" : Str), ("figure " : Str) ++ txtE fs) := .odd (figE_ty (Z := Z) f) Z.seqF (.fig f l)
theorem shw_ok {CF : Addr} {H : Hp} {v : V} {z : Str} (h : Shw CF H v z) : PyData.strOk z = true := by
  cases h with
  | dat dv n t => exact ok_shown _ t
  | fig f l => exact ok_app (ok_of "figure ") (ok_edges _)
theorem hand_ok {K : PySem.W.Frag} {CF : Addr} {es : List Eg} {H : Hp} {v : V} {a : Str × Str} (h : Hand K CF es H v a) : PyData.strOk a.1 = true ∧ PyData.strOk a.2 = true := by
  cases h with
  | odd ty no sh => exact ⟨ok_of "walks", shw_ok sh⟩
  | @seq _ _ _ _ ds ty yes h ho dv ask it l =>
    unfold ansK
    cases e : ds.find? (fun d => !walkB d) with
    | some d =>
      have nw : walkB d = false := by
        have := List.find?_some e
        simpa using this
      exact ⟨ok_of "walk", ok_shown _ (it d (List.mem_of_find?_eq_some e) nw).txt⟩
    | none =>
      refine ⟨ok_of "told", ?_⟩
      cases faultO es ds with
      | none => exact ok_shown .none (by simp [okS])
      | some i => exact ok_int _
def ansD (a : Str × Str) : PyData := .list [.str a.1, .str a.2]
section
variable {K : PySem.W.Frag} {CF : Addr} {es : List Eg} {σ : L2.St} {H0 : Hp} {t : TE} {a : Str × Str}
/-- from H0 on, the expression makes what may be handed -/
def MakH (K : PySem.W.Frag) (CF : Addr) (es : List Eg) (σ : L2.St) (H0 : Hp) (t : TE) (a : Str × Str) : Prop := ∀ (H : Hp) (Q : VK), Same H0 H → (∀ v H', Same H H' → Hand K CF es H' v a → Q v H') → t σ H Q
theorem mkh_var {i : Nat} {v : V} (h : σ[i]? = some (some v)) (ha : Hand K CF es H0 v a) : MakH K CF es σ H0 (tVar i) a := fun H Q s q => ⟨v, h, q v H (same0 H) (ha.more s)⟩
theorem mkh_list {ds : List PyData} (h : Mak σ H0 t (.list ds)) (ask : ∀ d ∈ ds, askW d) (it : ∀ d ∈ ds, walkB d = false → Itm d) (l : ds.length ≤ 500) : MakH K CF es σ H0 t (ansK es ds) := fun H Q s q => h H Q s fun v H' s' dv => q v H' s' (hand_list dv ask it l)
theorem mkh_tup {ds : List PyData} (h : Mak σ H0 t (.tuple ds)) (ask : ∀ d ∈ ds, askW d) (it : ∀ d ∈ ds, walkB d = false → Itm d) (l : ds.length ≤ 500) : MakH K CF es σ H0 t (ansK es ds) := fun H Q s q => h H Q s fun v H' s' dv => q v H' s' (hand_tup dv ask it l)
theorem mak_tupL {ds : List PyData} (h : Mak σ H0 t (.list ds)) : Mak σ H0 (tCB (fun xs H Q => ∃ p ys, xs = [.ref p] ∧ ((SqL K H p ys ∧ ∀ l, H l = none → Q (.ref l) (upd H l (.tup ys))) ∨ (SqT K H p ys ∧ Q (.ref p) H))) (tCons t tNil)) (.tuple ds) := fun H Q s q =>
  h H _ s fun v H1 s1 dv => by
    obtain ⟨a, xs, rfl, ha, dx⟩ := dv_lst dv
    refine ⟨a, xs, rfl, .inl ⟨SqL.of ha, fun l nl => ?_⟩⟩
    have s2 : Same H1 (upd H1 l (.tup xs)) := fun b o e => stay e nl
    exact q _ _ (same_tr s1 s2) (.tup upd_same (dx.more s2))
theorem mak_cau {i : Nat} {x : Addr} {E : XK} (hx : σ[i]? = some (some (.ref x))) (f : FigE CF H0 x es) (l : es.length ≤ 400) (h : MakH K CF es σ H0 t a) : Mak σ H0 (tCall (spCau K CF) [] E (tCons (tVar i) (tCons t tNil))) (ansD a) := fun H Q s q =>
  ⟨_, hx, h H _ s fun v H1 s1 ha => ⟨x, es, v, a, rfl, f.more (same_tr s s1), l, ha, fun L H2 s2 hL => q _ H2 (same_tr s1 s2) (.lst hL (.cons (.str _) (.cons (.str _) .nil)))⟩⟩
theorem mak_due {i : Nat} {A : Addr} {E : XK} (hx : σ[i]? = some (some (.ref A))) (f : LE H0 A es) (h : MakH K CF es σ H0 t a) : Mak σ H0 (tCall (spDue K CF) [] E (tCons (tVar i) (tCons t tNil))) (ansD a) := fun H Q s q =>
  ⟨_, hx, h H _ s fun v H1 s1 ha => ⟨A, es, v, rfl, f.more (same_tr s s1), a, ha, fun L H2 s2 hL => q _ H2 (same_tr s1 s2) (.lst hL (.cons (.str _) (.cons (.str _) .nil)))⟩⟩
theorem sh_told {z t : Str} (hz : PyData.strOk z = true) (ht : PyData.strOk t = true) : SeqAt.shaped (.list [.str z, .str t]) = true := by
  show ((PyData.strOk z && (PyData.strOk t && true)) && decide (max 0 (max 0 0) + 1 ≤ 64)) = true
  rw [hz, ht]
  rfl
/-- two answers alike -/
theorem mak_neAns {u : TE} (h : Mak σ H0 t (ansD a)) (k : Mak σ H0 u (ansD a)) (o1 : PyData.strOk a.1 = true) (o2 : PyData.strOk a.2 = true) : Mak σ H0 (tOp (rNeD K) t u) (.bool false) := fun H Q s q =>
  h H _ s fun v H1 s1 dv => k H1 _ (same_tr s s1) fun w H2 s2 du => by
    obtain ⟨p, xs, rfl, hp, dx⟩ := dv_lst (dv.more s2)
    obtain ⟨r, ys, rfl, hr, dy⟩ := dv_lst du
    refine ⟨ansD a, ansD a, .lst (SqL.of hp) (dps_of dx rfl), .lst (SqL.of hr) (dps_of dy rfl), sh_told o1 o2, sh_told o1 o2, ?_⟩
    have e : (!PyData.eqv (ansD a) (ansD a)) = false := by
      have : PyData.eqv (ansD a) (ansD a) = true := by simp [ansD, PyData.eqv, PyData.eqvAll]
      rw [this]
      rfl
    rw [e]
    exact q _ H2 (same_tr s1 s2) (.bl _)
end
end Y1
set_option Elab.async false
set_option linter.all false
set_option maxRecDepth 100000
set_option maxHeartbeats 16000000
/-! The odd ones; a long walk; figures made. -/
namespace Y1
open PySem PySem.Spec PyProof.Rows L2 Nv
mutual
def intsD : PyData → List Int
  | .int i => [i]
  | .list l => intsDs l
  | .tuple l => intsDs l
  | _ => []
def intsDs : List PyData → List Int
  | [] => []
  | d :: r => intsD d ++ intsDs r
end
mutual
def strsD : PyData → Bool
  | .str x => x == "walk"
  | .list l => strsDs l
  | .tuple l => strsDs l
  | .dict l => l.isEmpty
  | _ => true
def strsDs : List PyData → Bool
  | [] => true
  | d :: r => strsD d && strsDs r
end
mutual
theorem okD_of : ∀ {d : PyData}, (∀ i ∈ intsD d, -1000 ≤ i ∧ i ≤ 1000) → strsD d = true → okD d ∧ okS d
  | .none, _, _ => by simp [okD, okS]
  | .bool b, _, _ => by simp [okD, okS]
  | .int i, h, _ => by
    have := h i (by simp [intsD])
    refine ⟨?_, by simp [okS]⟩
    simp only [okD]
    exact Nat.lt_of_le_of_lt (show i.natAbs ≤ 1000 by omega) (by decide)
  | .str x, _, s => by
    have e : x = "walk" := by simpa [strsD] using s
    subst e
    refine ⟨?_, ?_⟩
    · simp only [okD]
      exact ⟨by decide, by decide +kernel⟩
    · simp only [okS]
      decide +kernel
  | .list l, h, s => by
    have := okDs_of (l := l) (by simpa [intsD] using h) (by simpa [strsD] using s)
    exact ⟨by simpa [okD] using this.1, by simpa [okS] using this.2⟩
  | .tuple l, h, s => by
    have := okDs_of (l := l) (by simpa [intsD] using h) (by simpa [strsD] using s)
    exact ⟨by simpa [okD] using this.1, by simpa [okS] using this.2⟩
  | .dict l, _, s => by
    have e : l = [] := by simpa [strsD] using s
    subst e
    simp [okD, okS]
theorem okDs_of : ∀ {l : List PyData}, (∀ i ∈ intsDs l, -1000 ≤ i ∧ i ≤ 1000) → strsDs l = true → okDs l ∧ okSs l
  | [], _, _ => by simp [okDs, okSs]
  | d :: r, h, s => by
    have s : strsD d = true ∧ strsDs r = true := by simpa [strsDs] using s
    have h1 := okD_of (d := d) (fun i hi => h i (by simp only [intsDs]; exact List.mem_append_left _ hi)) s.1
    have h2 := okDs_of (l := r) (fun i hi => h i (by simp only [intsDs]; exact List.mem_append_right _ hi)) s.2
    exact ⟨by simpa [okDs] using And.intro h1.1 h2.1, by simpa [okSs] using And.intro h1.2 h2.2⟩
end
def askB : PyData → Bool
  | .tuple ds => decide (ds.length ≤ 50) && ds.all fun p => match p with
    | .tuple es => es.length != 2 || es.all flatD
    | _ => true
  | _ => true
theorem askB_of {d : PyData} (h : askB d = true) : askW d ∧ ∀ ds, d = .tuple ds → ds.length ≤ 50 := by
  cases d with
  | tuple ds =>
    have h : (decide (ds.length ≤ 50) && _) = true := h
    rw [Bool.and_eq_true] at h
    have l := of_decide_eq_true h.1
    refine ⟨fun ds' e => ?_, fun ds' e => by cases e; exact l⟩
    cases e
    refine ⟨by omega, fun p hp es e l2 f hf => ?_⟩
    subst e
    have := List.all_eq_true.mp h.2 _ hp
    simp only [l2] at this
    exact List.all_eq_true.mp (by simpa using this) f hf
  | _ => exact ⟨(fun ds e => nomatch e), (fun ds e => nomatch e)⟩
def empB : PyData → Bool
  | .dict [] => true
  | _ => false
def chkB (d : PyData) : Bool := strsD d && (Nat.ble d.depth 5 && (Nat.ble (cap d) 10000 && (askB d && (!d.hasDict || empB d))))
theorem gd_of {L : Nat} {d : PyData} (h : ∀ i ∈ intsD d, -1000 ≤ i ∧ i ≤ 1000) (c : chkB d = true) (l : 50 ≤ L) : Gd L d := by
  unfold chkB at c
  simp only [Bool.and_eq_true] at c
  obtain ⟨c1, c2, c3, c4, c5⟩ := c
  obtain ⟨o1, o2⟩ := okD_of h c1
  obtain ⟨a1, a2⟩ := askB_of c4
  refine ⟨⟨o1, Nat.le_of_ble_eq_true c2, Nat.le_of_ble_eq_true c3, fun hd => ?_, a1, o2⟩, fun ds e => Nat.le_trans (a2 ds e) l⟩
  rw [hd] at c5
  have c5 : empB d = true := c5
  unfold empB at c5
  split at c5
  · rfl
  · cases c5
abbrev p2 (a b : Int) : PyData := .tuple [.int a, .int b]
/-- what is odd -/
def oddL (x y u v : Int) : List PyData :=
  [.none, .int 0, .str "walk", .list [p2 0 0, p2 1 0], .tuple [p2 0 0], .tuple []] ++ [.tuple [p2 0 0, p2 1 1], .tuple [p2 0 0, p2 0 0], .tuple [p2 31 0, p2 30 0]] ++ [.tuple [p2 x y, p2 u v]]
   ++ [.tuple [p2 x (0 - 1), p2 x 0], .tuple [p2 x 30, p2 x 31], .tuple [p2 0 0, .tuple [.int 1, .int 0, .int 0]], .tuple [.tuple [.int 0, .none], p2 0 1]]
   ++ [.tuple [p2 0 0, .tuple [.bool true, .int 0]], .tuple [p2 0 0, .list [.int 1, .int 0]], p2 0 0, .tuple [p2 0 0, p2 1 0, p2 3 0], .dict []]
theorem odd_gd {x y u v : Int} {L : Nat} (hx : 0 ≤ x ∧ x ≤ 100) (hy : 0 ≤ y ∧ y ≤ 100) (hu : 0 ≤ u ∧ u ≤ 100) (hv : -100 ≤ v ∧ v ≤ 100) (l : 50 ≤ L) : ∀ d ∈ oddL x y u v, Gd L d := by
  have c : (oddL x y u v).all chkB = true := rfl
  have i : ∀ d ∈ oddL x y u v, ∀ i ∈ intsD d, -1000 ≤ i ∧ i ≤ 1000 := by
    intro d hd i hi
    simp only [oddL, List.mem_append, List.mem_cons, List.not_mem_nil, or_false] at hd
    rcases hd with (((((rfl | rfl | rfl | rfl | rfl | rfl) | (rfl | rfl | rfl)) | rfl) | (rfl | rfl | rfl | rfl)) | (rfl | rfl | rfl | rfl | rfl)) <;>
      simp only [intsD, intsDs, List.mem_append, List.mem_cons, List.not_mem_nil, or_false, false_or, List.append_nil, List.nil_append] at hi <;> omega
  intro d hd
  exact gd_of (i d hd) (List.all_eq_true.mp c d hd) l
theorem odd_len (x y u v : Int) : (oddL x y u v).length = 19 := rfl
/-! ### a long walk -/
def longP : Nat → List Pt
  | 0 => []
  | k + 1 => (3, 3) :: (3, 4) :: longP k
theorem long_len : ∀ k, (longP k).length = 2 * k
  | 0 => rfl
  | k + 1 => by
    show (longP k).length + 1 + 1 = _
    rw [long_len k]
    omega
theorem long_nbs : ∀ k, (nbs (p2 3 4 :: (longP k).map ptP)).all id = true
  | 0 => rfl
  | k + 1 => by
    show (nbB (p2 3 4) (p2 3 3) && (nbB (p2 3 3) (p2 3 4) && (nbs (p2 3 4 :: (longP k).map ptP)).all id)) = true
    rw [long_nbs k]
    rfl
theorem long_on : ∀ k, ((longP k).map ptP).all ptB = true
  | 0 => rfl
  | k + 1 => by
    show (ptB (p2 3 3) && (ptB (p2 3 4) && ((longP k).map ptP).all ptB)) = true
    rw [long_on k]
    rfl
theorem long_walk (k : Nat) : walkB (wP (longP (k + 1))) = true := by
  show (decide (2 ≤ ((longP (k + 1)).map ptP).length) && (((longP (k + 1)).map ptP).all ptB && (nbs ((longP (k + 1)).map ptP)).all id)) = true
  rw [long_on, List.length_map, long_len, decide_eq_true (by omega)]
  show (true && (true && (nbB (p2 3 3) (p2 3 4) && (nbs (p2 3 4 :: (longP k).map ptP)).all id))) = true
  rw [long_nbs]
  rfl
theorem dvs_long {H : Hp} {a b : V} (ha : DV H a (p2 3 3)) (hb : DV H b (p2 3 4)) : ∀ k : Nat, DVs H (List.replicate k [a, b]).flatten ((longP k).map ptP)
  | 0 => .nil
  | k + 1 => by
    rw [List.replicate_succ, List.flatten_cons]
    exact .cons ha (.cons hb (dvs_long ha hb k))
/-! ### figures -/
theorem fig_mk {K : PySem.W.Frag} {mg : Str → Option Value} {CF CH C CT : Addr} {sp : Sp} (hsp : ∀ vs H Q E, spFig K CF CH C CT vs H Q E → sp vs H Q E) (Z : Kf K mg CF CH) {σ : L2.St} {H : Hp} {Q : VK} {E : L2.St → XK} {te : TE} {es : List Eg} (h : Mak σ H te (.list (es.map eP))) (ed : ∀ e ∈ es, edB e = true) (as : Asc es) (l : es.length ≤ 400)
    (q : ∀ z H', Same H H' → FigE CF H' z es → Q (.ref z) H') : tMakeS CF sp E (tCons te tNil) σ H Q := by
  refine mkS_i (cons_i (mak_go _ h fun v H1 s1 dv => nil_i fun y dx ny ndx ne => hsp _ _ _ _ ?_))
  obtain ⟨a, xs, rfl, ha, dxs⟩ := dv_lst dv
  have s2 : Same H1 (upd (upd H1 dx (.own y)) y (.ins CF dx [])) := fun b o e => stay (stay e ndx) (by rw [upd_ne (Ne.symm ne)]; exact ny)
  have hy : upd (upd H1 dx (.own y)) y (.ins CF dx []) y = some (.ins CF dx []) := upd_same
  generalize upd (upd H1 dx (.own y)) y (.ins CF dx []) = H2 at s2 hy
  have dv2 := dxs.more s2
  have good : ∀ d ∈ es.map eP, edgeB d = true := fun d hd => by
    obtain ⟨e, he, rfl⟩ := List.mem_map.mp hd
    exact edgeB_of (ed e he)
  refine ⟨y, dx, .ref a, .type "list", true, rfl, hy, .base (.lst (s2 _ _ ha)), Z.heldT _ (by decide), rfl, (fun e => nomatch e), fun _ => ⟨a, xs, es.map eP, rfl, ⟨.inl (s2 _ _ ha), dv2, fun d hd => ?_, by rw [List.length_map]; omega⟩, fun ⟨d, hd, b⟩ => ?_, fun _ kvs gd => ⟨fun big => ?_, fun few H3 b3 fig => ⟨rfl, ?_⟩⟩⟩⟩
  · obtain ⟨e, he, rfl⟩ := List.mem_map.mp hd
    exact eP_flat (ed e he)
  · rw [good d hd] at b
    cases b
  · rw [good_len dv2 ed as gd] at big
    omega
  · have s13 : Same H1 H3 := fun b o e => b3 b o (fun z => by rw [z, ny] at e; cases e) (s2 _ _ e)
    exact q y H3 (same_tr s1 s13) (good_fig (H := H1) (dxs.more s13) ed as gd fig)
theorem fig0_i {K : PySem.W.Frag} {CF : Addr} {e : Addr} (ke : KEmp K e) {σ : L2.St} {H : Hp} {Q : VK} (q : ∀ z H', Same H H' → FigE CF H' z [] → Q (.ref z) H') : tMake CF (spFig0 K CF) [.ref e] E0 tNil σ H Q :=
  mk_i (nil_i fun y dx ny nd ne => by
    have nyd : y ≠ dx := fun z => ne z.symm
    have sA : Same H (upd (upd H dx (.own y)) y (.ins CF dx [])) := fun b o e => stay (stay e nd) (by rw [upd_ne nyd]; exact ny)
    refine ⟨e, y, dx, rfl, ke, upd_same, fun H' b fa => ⟨rfl, q y H' (fun c o e => b c o (fun z => by rw [z, ny] at e; cases e) (sA _ _ e)) ⟨[], fa, .nil, .nil, fun e he => nomatch he⟩⟩⟩)
end Y1
set_option Elab.async false
set_option linter.all false
set_option maxRecDepth 100000
set_option maxHeartbeats 16000000
/-! The law. -/
namespace Y1
open PySem PySem.Spec PyProof.Rows L2 Nv
abbrev lawN : List Str := ["_law_script", "_law_k", "_law_box_here", "_law_edges_here", "_law_figure", "_law_walks", "_law_odd", "_law_x", "_law_y", "_law_turn", "_law_some", "_law_due_here", "_law_handed", "_law_value", "_law_long", "_law_walk"]
def spLaw (K : PySem.W.Frag) : Sp := fun vs H Q _ => ∃ (a : Addr) (ns : List Int), vs = [.ref a] ∧ SqL K H a (ns.map V.int) ∧ ns.length ≤ 63 ∧ ∀ H', Q (.bl true) H'
theorem but_sameL {p : Addr} {a c : Hp} (n : a p = none) (k : But p a c) : Same a c := fun x o e => k x o (fun z => by rw [z, n] at e; cases e) e
theorem sql_same {K : PySem.W.Frag} {H H' : Hp} {a : Addr} {xs : List V} (s : Same H H') (h : SqL K H a xs) : SqL K H' a xs := by
  rcases h with (h | ⟨o, h⟩) | h
  · exact .inl (.inl (s _ _ h))
  · exact .inl (.inr ⟨o, s _ _ h⟩)
  · exact .inr h
theorem le_but {H H' : Hp} {p A : Addr} {m : Int} {es : List Eg} (l : LE H A es) (ne : A ≠ p) (bx : BoxAt H p m) (b : But p H H') : LE H' A es := by
  obtain ⟨⟨xs, h1, h2⟩, h3⟩ := l
  exact ⟨⟨xs, b _ _ ne h1, dvs_box h2 bx b⟩, h3⟩
theorem box_ne {H : Hp} {p a : Addr} {m : Int} {o : HO} (bx : BoxAt H p m) (h : H a = some o) (n : ∀ xs, o ≠ .lst xs) : a ≠ p := fun e => by
  obtain ⟨b0, b1, b2, hb, _⟩ := bx
  rw [e, hb] at h
  exact n _ (Option.some.inj h).symm
theorem figE_hid {CF : Addr} {H : Hp} {p x : Addr} {m : Int} {es : List Eg} (bx : BoxAt H p m) (f : FigE CF H x es) : FigE CF (hid p H) x es := by
  obtain ⟨kvs, ⟨dx, tt, hh, h1, h2, h3⟩, en, as, ed⟩ := f
  exact ⟨kvs, ⟨dx, tt, hh, hid_of h1 (box_ne bx h1 fun xs e => nomatch e) (.inl fun xs e => nomatch e), hid_of h2 (box_ne bx h2 fun xs e => nomatch e) (.inl fun xs e => nomatch e), hid_of h3 (box_ne bx h3 fun xs e => nomatch e) (.inl fun xs e => nomatch e)⟩, L2.Paired.mapP en fun q e z => ⟨z.1, dv_hid bx z.2 (eP_imm e)⟩, as, ed⟩
/-- what stands throughout a round -/
structure Lw (CF : Addr) (H : Hp) (p A x W : Addr) (es : List Eg) (fs : List (List Pt)) : Prop where
  le : LE H A es
  nA : A ≠ p
  fg : FigE CF (hid p H) x es
  dW : DV (hid p H) (.ref W) (.list (fs.map wP))
theorem Lw.but {CF : Addr} {H H' : Hp} {p A x W : Addr} {m : Int} {es : List Eg} {fs : List (List Pt)} (l : Lw CF H p A x W es fs) (bx : BoxAt H p m) (b : But p H H') : Lw CF H' p A x W es fs :=
  ⟨le_but l.le l.nA bx b, l.nA, l.fg.more (hid_but b), dvh_but b l.dW⟩
theorem Lw.same {CF : Addr} {H H' : Hp} {p A x W : Addr} {es : List Eg} {fs : List (List Pt)} (l : Lw CF H p A x W es fs) (s : Same H H') : Lw CF H' p A x W es fs :=
  ⟨l.le.more s, l.nA, l.fg.more (hid_same s), l.dW.more (hid_same s)⟩
theorem Lw.fig {CF : Addr} {H : Hp} {p A x W : Addr} {es : List Eg} {fs : List (List Pt)} (l : Lw CF H p A x W es fs) : FigE CF H x es := l.fg.more hid_le
section
variable {p : Addr} {σ : L2.St} {H0 : Hp} {t u : TE} {ts : TA} {d e : PyData} {ds es : List PyData}
theorem mkq_nil : MakBA p 0 σ H0 tNil (· = []) := mkb_nil
theorem mkq_cons (h : MakB p 0 σ H0 t (· = d)) (k : MakBA p 0 σ H0 ts (· = ds)) : MakBA p 0 σ H0 (tCons t ts) (· = d :: ds) := fun H Q m b bx hm q => mkb_cons h k H Q m b bx hm fun v x H' r => q v x H' (by
  obtain ⟨y, z, rfl, rfl, rfl⟩ := r
  rfl)
theorem mkq_tup (h : MakBA p 0 σ H0 ts (· = ds)) (l : ds.length ≤ sizeLine := by exact Nat.le_of_ble_eq_true rfl) : MakB p 0 σ H0 (tTup ts) (· = .tuple ds) := mkb_weak (mkb_tup h fun x e => by rw [e]; exact l) fun x ⟨y, e1, e2⟩ => by rw [e1, e2]
theorem mkq_lst (h : MakBA p 0 σ H0 ts (· = ds)) (l : ds.length ≤ sizeLine := by exact Nat.le_of_ble_eq_true rfl) : MakB p 0 σ H0 (tLstS ts) (· = .list ds) := mkb_weak (mkb_lst h fun x e => by rw [e]; exact l) fun x ⟨y, e1, e2⟩ => by rw [e1, e2]
theorem mkq_cat (h : MakB p 0 σ H0 t (· = .list ds)) (k : MakB p 0 σ H0 u (· = .list es)) (l1 : ds.length ≤ 100000 := by exact Nat.le_of_ble_eq_true rfl) (l2 : es.length ≤ 100000 := by exact Nat.le_of_ble_eq_true rfl) : MakB p 0 σ H0 (tOp rCatSN t u) (· = .list (ds ++ es)) :=
  mkb_weak (mkb_cat h k (fun x e => ⟨ds, e, l1⟩) fun x e => ⟨es, e, l2⟩) fun x ⟨y, z, e1, e2, e3⟩ => by
    cases e2
    cases e3
    exact e1
theorem mkq_op {g : Int → Int → Int} {i j : Int} (h : MakB p 0 σ H0 t (· = .int i)) (k : MakB p 0 σ H0 u (· = .int j)) : MakB p 0 σ H0 (tOp (rI0 fun i j => V.int (g i j)) t u) (· = .int (g i j)) :=
  mkb_weak (mkb_op h k (fun x e => ⟨i, e⟩) fun x e => ⟨j, e⟩) fun x ⟨y, z, e1, e2, e3⟩ => by
    cases e2
    cases e3
    exact e1
theorem mkq_pt {i j : Int} (h : MakB p 0 σ H0 t (· = .int i)) (k : MakB p 0 σ H0 u (· = .int j)) : MakB p 0 σ H0 (tTup (tCons t (tCons u tNil))) (· = p2 i j) := mkq_tup (mkq_cons h (mkq_cons k mkq_nil))
end
section
variable {K : PySem.W.Frag} {σ : L2.St} {H0 : Hp}
theorem mak_repH {p : Addr} {i : Nat} {v : V} {d : PyData} (h : σ[i]? = some (some v)) (dv : DV (hid p H0) v d) (n : NiceL d) : Mak σ H0 (tCB rReprH (tCons (tVar i) tNil)) (.str d.shown) := fun H Q s q =>
  ⟨v, h, p, v, d, rfl, dv.more (hid_same s), n, q _ H (same0 H) (.str _)⟩
theorem mak_neStr {t u : TE} {z : Str} (h : Mak σ H0 t (.str z)) (k : Mak σ H0 u (.str z)) : Mak σ H0 (tOp rNe t u) (.bool false) := fun H Q s q =>
  h H _ s fun v H1 s1 dv => k H1 _ (same_tr s s1) fun w H2 s2 du => by
    cases dv
    cases du
    refine ⟨rfl, ?_⟩
    have e : (!decide (V.str z = V.str z)) = false := by rw [decide_eq_true rfl]; rfl
    rw [e]
    exact q _ H2 (same_tr s1 s2) (.bl _)
theorem mak_told : Mak σ H0 (tLst (tCons (tC (.str "told")) (tCons (tC (.str "None")) tNil))) (ansD (("told" : Str), ("None" : Str))) := mak_lst (mak_cons mak_str (mak_cons mak_str mak_nil))
end
theorem nice_list {L : Nat} {zd : List PyData} (g : ∀ d ∈ zd, Gd L d) (l : zd.length ≤ 500) : NiceL (.list zd) := by
  have o : okD (.list zd) := by
    have : okDs zd := okDs_all fun d hd => (g d hd).1.ok
    simpa [okD] using this
  refine ⟨shows_of _ o, ?_, Nat.le_trans (shown_le _ o) ?_⟩
  · show PyData.depthAll zd + 1 ≤ 60
    have := depth_all (n := 5) (l := zd) fun d hd => (g d hd).1.dp
    omega
  · show caps zd + 2 ≤ sizeLine
    have := caps_all (n := 10000) (l := zd) fun d hd => (g d hd).1.cp
    exact Nat.le_trans (show caps zd + 2 ≤ 5100000 by omega) (by decide)
theorem mak_slL1 {K : PySem.W.Frag} {σ : L2.St} {H0 : Hp} {t : TE} {ds : List PyData} (h : Mak σ H0 t (.list ds)) : Mak σ H0 (tSl (rSlL K) t tNoPart (tPart (tC (.int 1)))) (.list (ds.take 1)) := fun H Q s q =>
  h H _ s fun v H1 s1 dv => by
    obtain ⟨a, xs, rfl, ha, dx⟩ := dv_lst dv
    refine ⟨1, rfl, a, xs, rfl, SqL.of ha, fun g ng => ?_⟩
    have ec : cutV xs none (some 1) = xs.take 1 := by
      have e : (1 : Int) = ((1 : Nat) : Int) := rfl
      unfold cutV
      rw [e, HT.sIx_nat, HT.sIx_none, List.drop_zero, Nat.sub_zero]
      by_cases c : 1 ≤ xs.length
      · rw [Nat.min_eq_left c]
      · rw [Nat.min_eq_right (by omega), List.take_of_length_le (Nat.le_refl _), List.take_of_length_le (by omega)]
    rw [ec]
    have s3 : Same H1 (upd H1 g (.lst (xs.take 1))) := fun b o e => stay e ng
    exact q _ _ (same_tr s1 s3) (.lst upd_same ((dvs_take 1 dx).more s3))
theorem mak_ixL0 {K : PySem.W.Frag} {σ : L2.St} {H0 : Hp} {t : TE} {ds : List PyData} {k : Nat} {d : PyData} (h : Mak σ H0 t (.list ds)) (hk : ds[k]? = some d) : Mak σ H0 (tOp (rIxL K) t (tC (.int (k : Int)))) d := fun H Q s q =>
  h H _ s fun v H1 s1 dv => by
    obtain ⟨a, xs, rfl, ha, dx⟩ := dv_lst dv
    have hl : k < xs.length := by
      rw [dx.length]
      exact (List.getElem?_eq_some_iff.mp hk).1
    obtain ⟨d', hd', dk⟩ := dx.at k xs[k] (List.getElem?_eq_getElem hl)
    rw [hk] at hd'
    cases hd'
    exact ⟨a, xs, (k : Int), xs[k], rfl, rfl, SqL.of ha, atI_nat (List.getElem?_eq_getElem hl), q _ H1 s1 dk⟩
theorem hand_walk {K : PySem.W.Frag} {CF : Addr} {es : List Eg} {H : Hp} {v : V} {w : List Pt} (dv : DV H v (wP w)) (ok : OkW 60 w) : Hand K CF es H v (ansK es (w.map ptP)) :=
  hand_tup dv (fun d hd => by
    obtain ⟨x, _, rfl⟩ := List.mem_map.mp hd
    exact (gd_of (L := 50) (d := ptP x) (fun i hi => by
      have := ok.2.2 x (by assumption)
      simp only [onP, Bool.and_eq_true, decide_eq_true_eq] at this
      simp only [ptP, intsD, intsDs, List.mem_append, List.mem_cons, List.not_mem_nil, or_false, List.append_nil] at hi
      omega) rfl (Nat.le_refl _)).1.ask) (fun d hd _ => by
    obtain ⟨x, hx, rfl⟩ := List.mem_map.mp hd
    exact (gd_of (L := 50) (d := ptP x) (fun i hi => by
      have := ok.2.2 x hx
      simp only [onP, Bool.and_eq_true, decide_eq_true_eq] at this
      simp only [ptP, intsD, intsDs, List.mem_append, List.mem_cons, List.not_mem_nil, or_false, List.append_nil] at hi
      omega) rfl (Nat.le_refl _)).1) (by rw [List.length_map]; have := ok.2.1; omega)
theorem nice_emp : Nice (.str "") ∧ okS (.str "") := ⟨nice_str (by decide) (by decide), by simp only [okS]; decide +kernel⟩
theorem nice_wks : Nice (.str "walks") ∧ okS (.str "walks") := ⟨nice_str (by decide) (by decide +kernel), by simp only [okS]; decide +kernel⟩
theorem told_ok : PyData.strOk (("told" : Str), ("None" : Str)).1 = true ∧ PyData.strOk (("told" : Str), ("None" : Str)).2 = true := ⟨ok_of "told", ok_of "None"⟩
section
variable {P : Program} {w : World} {K : PySem.W.Frag} {mg : Str → Option Value} {base : Heap} {CF CH C CT : Addr}
theorem scLw : FnScope lawN ["_law_script"] (defScope (top 46)) := ⟨rfl, rfl, rfl, by decide +kernel, rfl, by decide +kernel, by decide +kernel⟩
theorem ok_law {spf : Sp} (hsp : ∀ vs H Q E, spFig K CF CH C CT vs H Q E → spf vs H Q E)
    {f : Addr} {fd : FuncData} (F : Fun K "law" "law" (top 46) f fd) (T : Ta mg) (TL : mg "list" = none) (TR : Trg mg) (TM : Tmm mg) (R : Trp mg) (Z : Kf K mg CF CH)
    {fE : Addr} {fdE : FuncData} (GE : FnOk P w K mg base CX0 1 fE fdE ["_law_script", "_law_k"] (spCell K)) (AE : At K mg "_law_cell_at" fE fdE ["_law_script", "_law_k"]) {fB : Addr} {fdB : FuncData} (GB : FnOk P w K mg base CX0 1 fB fdB ["_law_number"] spBox) (AB : At K mg "_law_box" fB fdB ["_law_number"])
    {fT : Addr} {fdT : FuncData} (GT : FnOk P w K mg base CX0 1 fT fdT ["_law_box_here", "_law_many"] spTake) (AT : At K mg "_law_take" fT fdT ["_law_box_here", "_law_many"])
    {fG : Addr} {fdG : FuncData} (GG : FnOk P w K mg base CX0 2 fG fdG ["_law_box_here", "_law_most"] spEdges) (AG : At K mg "_law_edges" fG fdG ["_law_box_here", "_law_most"])
    {fV : Addr} {fdV : FuncData} (GV : FnOk P w K mg base CX0 2 fV fdV ["_law_box_here", "_law_edges_here"] spDv) (AV : At K mg "_law_divided" fV fdV ["_law_box_here", "_law_edges_here"])
    {fD : Addr} {fdD : FuncData} (GD : FnG P w K mg base 3 fD fdD ["_law_edges_here", "_law_walks"] (spDue K CF)) (AD : At K mg "_law_due" fD fdD ["_law_edges_here", "_law_walks"])
    {fC : Addr} {fdC : FuncData} (GC : FnG P w K mg base 8 fC fdC ["_law_figure", "_law_walks"] (spCau K CF)) (AC : At K mg "_law_caught" fC fdC ["_law_figure", "_law_walks"])
    {fP : Addr} {fdP : FuncData} (GP : FnOk P w K mg base CX0 3 fP fdP ["_law_box_here", "_law_some", "_law_walks", "_law_odd"] spSpo) (AP : At K mg "_law_spoilt" fP fdP ["_law_box_here", "_law_some", "_law_walks", "_law_odd"])
    {fF : Addr} {fdF : FuncData} (M : Mk K CF fF) (GF : FnOk P w K mg base (L2N.CX P w) 5 fF fdF ["self", "edges"] spf) (bF : Binds K fdF ["self", "edges"] [])
    (G0 : FnOk P w K mg base CX0 5 fF fdF ["self", "edges"] (spFig0 K CF)) {e0 : Addr} (ke : KEmp K e0) {ds0 : List Value} (v0 : Vals [.ref e0] ds0) (b0 : Binds K fdF ["self", "edges"] ds0) : FnG P w K mg base 9 f fd ["_law_script"] (spLaw K) := by
  refine FnG.made F scLw (fun vs H Q E h => by obtain ⟨a, ns, rfl, _⟩ := h; rfl) (fun cdv A outer s H vs Q E gd hr h => ?_)
  obtain ⟨a0, ns, rfl, hS, hlen, q⟩ := h
  have hu : (A.deeper (envOfC "law" (defScope (top 46)) s.heap.objs.size f cdv)).units + 100 < cLine := by
    have := hr.un
    omega
  have hu64 : (A.deeper (envOfC "law" (defScope (top 46)) s.heap.objs.size f cdv)).units + 64 < cLine := by omega
  refine ⟨_, (pss_cons (ps_for PassesOwn.never rfl (pi_range1 rfl TR.rng (pa_cons (pe_callB (call_max2 rfl) (by rfl) TM.max (by decide +kernel) (pa_cons pe_int (pa_cons (pe_callB (call_min2 rfl) (by rfl) TM.min (by decide +kernel) (pa_cons pe_int (pa_cons (pe_callB call_len_seq (by rfl) T.len PySem.boot_len (pa_cons (pv 0) pa_nil)) pa_nil))) pa_nil))) pa_nil)) (pg_name (i := 1) scLw.nd rfl (by first | exact Or.inl rfl | exact Or.inr rfl)) (pss_cons (ps_set (i := 2) scLw.nd rfl (by first | exact Or.inl rfl | exact Or.inr rfl) (pe_call GB (hr.mono (by decide)) rfl AB.g AB.k AB.b .nil pass0 (pa_cons (pe_call GE (hr.mono (by decide)) rfl AE.g AE.k AE.b .nil pass0 (pa_cons (pv 0) (pa_cons (pv 1) pa_nil))) pa_nil)))
    (pss_cons (ps_set (i := 3) scLw.nd rfl (by first | exact Or.inl rfl | exact Or.inr rfl) (pe_call GG (hr.mono (by decide)) rfl AG.g AG.k AG.b .nil pass0 (pa_cons (pv 2) (pa_cons pe_int pa_nil))))
    (pss_cons (ps_par (i := 4) (j := 5) rfl scLw.nd rfl rfl (by decide) rfl rfl (pa_cons (pe_makeS M GF (hr.mono (by decide)) rfl Z.gF bF (L2N.passAt takesN0) (pa_cons (pv 3) pa_nil)) (pa_cons (pe_call GV (hr.mono (by decide)) rfl AV.g AV.k AV.b .nil pass0 (pa_cons (pv 2) (pa_cons (pv 3) pa_nil))) pa_nil)) (by rfl))
    (pss_cons (ps_if (PW.pt (pw_or (pt_cmpR (op_neD hu64) (pe_callG GC gd (hr.mono (by decide)) rfl AC.g AC.k AC.b (pa_cons (pv 4) (pa_cons (pv 5) pa_nil))) (pe_lst (pa_cons pe_str (pa_cons pe_str pa_nil))) (by rfl)) (pw_or1 (pt_cmpR (op_neD hu64) (pe_callG GC gd (hr.mono (by decide)) rfl AC.g AC.k AC.b (pa_cons (pv 4) (pa_cons (pe_callTy call_tuple_of (by rfl) T.tup (by decide +kernel) (pa_cons (pv 5) pa_nil)) pa_nil))) (pe_lst (pa_cons pe_str (pa_cons pe_str pa_nil))) (by rfl))))) (pss_one (ps_ret pe_bl)) pss_nil)
    (pss_cons (ps_set (i := 6) scLw.nd rfl (by first | exact Or.inl rfl | exact Or.inr rfl) (pe_lstS (pa_cons pe_non (pa_cons pe_int (pa_cons pe_str (pa_cons (pe_lstS (pa_cons (pe_tup (pa_cons pe_int (pa_cons pe_int pa_nil))) (pa_cons (pe_tup (pa_cons pe_int (pa_cons pe_int pa_nil))) pa_nil))) (pa_cons (pe_tup (pa_cons (pe_tup (pa_cons pe_int (pa_cons pe_int pa_nil))) pa_nil)) (pa_cons (pe_tup pa_nil) pa_nil))))))))
    (pss_cons (ps_set (i := 6) scLw.nd rfl (by first | exact Or.inl rfl | exact Or.inr rfl) (pe_op op_catSN (pv 6) (pe_lstS (pa_cons (pe_tup (pa_cons (pe_tup (pa_cons pe_int (pa_cons pe_int pa_nil))) (pa_cons (pe_tup (pa_cons pe_int (pa_cons pe_int pa_nil))) pa_nil))) (pa_cons (pe_tup (pa_cons (pe_tup (pa_cons pe_int (pa_cons pe_int pa_nil))) (pa_cons (pe_tup (pa_cons pe_int (pa_cons pe_int pa_nil))) pa_nil))) (pa_cons (pe_tup (pa_cons (pe_tup (pa_cons pe_int (pa_cons pe_int pa_nil))) (pa_cons (pe_tup (pa_cons pe_int (pa_cons pe_int pa_nil))) pa_nil))) pa_nil))))))
    (pss_cons (ps_par (i := 7) (j := 8) rfl scLw.nd rfl rfl (by decide) rfl rfl (pa_cons (pe_call GT (hr.mono (by decide)) rfl AT.g AT.k AT.b .nil pass0 (pa_cons (pv 2) (pa_cons pe_int pa_nil))) (pa_cons (pe_op op_add pe_int (pe_call GT (hr.mono (by decide)) rfl AT.g AT.k AT.b .nil pass0 (pa_cons (pv 2) (pa_cons pe_int pa_nil)))) pa_nil)) (by rfl))
    (pss_cons (ps_expr (pe_bm PySem.F.plainAttrs_list PySem.F.slot_list_append PySem.F.type_list_append mt_append (pv 6) (pa_cons (pe_tup (pa_cons (pe_tup (pa_cons (pv 7) (pa_cons (pv 8) pa_nil))) (pa_cons (pe_tup (pa_cons (pe_op op_add (pe_op op_add (pv 7) (pe_call GT (hr.mono (by decide)) rfl AT.g AT.k AT.b .nil pass0 (pa_cons (pv 2) (pa_cons pe_int pa_nil)))) pe_int) (pa_cons (pe_op op_sub (pe_op op_add (pv 8) (pe_call GT (hr.mono (by decide)) rfl AT.g AT.k AT.b .nil pass0 (pa_cons (pv 2) (pa_cons pe_int pa_nil)))) pe_int) pa_nil))) pa_nil))) pa_nil)))
    (pss_cons (ps_set (i := 6) scLw.nd rfl (by first | exact Or.inl rfl | exact Or.inr rfl) (pe_op op_catSN (pv 6) (pe_lstS (pa_cons (pe_tup (pa_cons (pe_tup (pa_cons (pv 7) (pa_cons (pe_op op_sub pe_int pe_int) pa_nil))) (pa_cons (pe_tup (pa_cons (pv 7) (pa_cons pe_int pa_nil))) pa_nil))) (pa_cons (pe_tup (pa_cons (pe_tup (pa_cons (pv 7) (pa_cons pe_int pa_nil))) (pa_cons (pe_tup (pa_cons (pv 7) (pa_cons pe_int pa_nil))) pa_nil))) (pa_cons (pe_tup (pa_cons (pe_tup (pa_cons pe_int (pa_cons pe_int pa_nil))) (pa_cons (pe_tup (pa_cons pe_int (pa_cons pe_int (pa_cons pe_int pa_nil)))) pa_nil))) (pa_cons (pe_tup (pa_cons (pe_tup (pa_cons pe_int (pa_cons pe_non pa_nil))) (pa_cons (pe_tup (pa_cons pe_int (pa_cons pe_int pa_nil))) pa_nil))) pa_nil)))))))
    (pss_cons (ps_set (i := 6) scLw.nd rfl (by first | exact Or.inl rfl | exact Or.inr rfl) (pe_op op_catSN (pv 6) (pe_lstS (pa_cons (pe_tup (pa_cons (pe_tup (pa_cons pe_int (pa_cons pe_int pa_nil))) (pa_cons (pe_tup (pa_cons pe_bl (pa_cons pe_int pa_nil))) pa_nil))) (pa_cons (pe_tup (pa_cons (pe_tup (pa_cons pe_int (pa_cons pe_int pa_nil))) (pa_cons (pe_lstS (pa_cons pe_int (pa_cons pe_int pa_nil))) pa_nil))) (pa_cons (pe_tup (pa_cons pe_int (pa_cons pe_int pa_nil))) (pa_cons (pe_tup (pa_cons (pe_tup (pa_cons pe_int (pa_cons pe_int pa_nil))) (pa_cons (pe_tup (pa_cons pe_int (pa_cons pe_int pa_nil))) (pa_cons (pe_tup (pa_cons pe_int (pa_cons pe_int pa_nil))) pa_nil)))) (pa_cons pe_dnewK pa_nil))))))))
    (pss_cons (ps_for PassesOwn.never rfl (pi_range1 rfl TR.rng (pa_cons pe_int pa_nil)) (pg_name (i := 9) scLw.nd rfl (by first | exact Or.inl rfl | exact Or.inr rfl)) (pss_cons (ps_set (i := 10) scLw.nd rfl (by first | exact Or.inl rfl | exact Or.inr rfl) (pe_call GP (hr.mono (by decide)) rfl AP.g AP.k AP.b .nil pass0 (pa_cons (pv 2) (pa_cons (pv 5) (pa_cons (pv 5) (pa_cons (pv 6) pa_nil))))))
    (pss_cons (ps_if (pt_cmpR op_eq (pe_op op_mod (pv 9) pe_int) pe_int (nomark _)) (pss_one (ps_set (i := 10) scLw.nd rfl (by first | exact Or.inl rfl | exact Or.inr rfl) (pe_call GP (hr.mono (by decide)) rfl AP.g AP.k AP.b .nil pass0 (pa_cons (pv 2) (pa_cons (pv 10) (pa_cons (pv 5) (pa_cons (pv 6) pa_nil))))))) pss_nil)
    (pss_cons (ps_par (i := 11) (j := 12) rfl scLw.nd rfl rfl (by decide) rfl rfl (pa_cons (pe_callG GD gd (hr.mono (by decide)) rfl AD.g AD.k AD.b (pa_cons (pv 3) (pa_cons (pv 10) pa_nil))) (pa_cons (pe_callTy call_list_ofS (by rfl) TL (by decide +kernel) (pa_cons (pv 10) pa_nil)) pa_nil)) (by rfl))
    (pss_one (ps_if (PW.pt (pw_or (pt_cmpR (op_neD hu64) (pe_callG GC gd (hr.mono (by decide)) rfl AC.g AC.k AC.b (pa_cons (pv 4) (pa_cons (pv 12) pa_nil))) (pv 11) (by rfl)) (pw_or1 (pt_cmpR op_ne (pe_callB (call_reprH gd hu) (by rfl) R.rep (by decide +kernel) (pa_cons (pv 12) pa_nil)) (pe_callB (call_reprH gd hu) (by rfl) R.rep (by decide +kernel) (pa_cons (pv 10) pa_nil)) (nomark _))))) (pss_one (ps_ret pe_bl)) pss_nil))))))
    (pss_cons (ps_for PassesOwn.never rfl (pi_list (pe_op op_cat (pe_lst (pa_cons pe_non (pa_cons pe_int (pa_cons pe_str (pa_cons pe_dnewK (pa_cons pe_bl (pa_cons pe_str (pa_cons (pv 4) pa_nil)))))))) (pe_lc (own := [("_law_walk", 15)]) (g := gName 15) (tt := tYes) (te := (tVar 15)) rfl scLw.nd (pi_list (pe_slice sl_list (pv 5) po_none (po_some pe_int))) (blkOk_by (N := lawN) (sc := defScope (top 46)) (by decide +kernel)) (fun _ _ _ _ _ => (pg_name (i := 15) scLw.nd rfl (by first | exact Or.inl rfl | exact Or.inr rfl))) (fun _ _ _ _ _ => pts_nil) (fun _ _ _ _ _ => (pv 15))))) (pg_name (i := 13) scLw.nd rfl (by first | exact Or.inl rfl | exact Or.inr rfl)) (pss_one (ps_if (pt_cmpR (op_neD hu64) (pe_callG GC gd (hr.mono (by decide)) rfl AC.g AC.k AC.b (pa_cons (pv 4) (pa_cons (pv 13) pa_nil))) (pe_callG GD gd (hr.mono (by decide)) rfl AD.g AD.k AD.b (pa_cons (pv 3) (pa_cons (pv 13) pa_nil))) (by rfl)) (pss_one (ps_ret pe_bl)) pss_nil)))
    (pss_cons (ps_set (i := 14) scLw.nd rfl (by first | exact Or.inl rfl | exact Or.inr rfl) (pe_op op_repT (pe_tup (pa_cons (pe_tup (pa_cons pe_int (pa_cons pe_int pa_nil))) (pa_cons (pe_tup (pa_cons pe_int (pa_cons pe_int pa_nil))) pa_nil))) (pe_op op_add pe_int (pe_call GT (hr.mono (by decide)) rfl AT.g AT.k AT.b .nil pass0 (pa_cons (pv 2) (pa_cons pe_int pa_nil))))))
    (pss_cons (ps_if (PW.pt (pw_or (pt_cmpR (op_neD hu64) (pe_callG GC gd (hr.mono (by decide)) rfl AC.g AC.k AC.b (pa_cons (pv 4) (pa_cons (pe_lst (pa_cons (pv 14) pa_nil)) pa_nil))) (pe_callG GD gd (hr.mono (by decide)) rfl AD.g AD.k AD.b (pa_cons (pv 3) (pa_cons (pe_lst (pa_cons (pv 14) pa_nil)) pa_nil))) (by rfl)) (pw_or1 (pt_cmpR op_ne (pe_ix (r := rIxL K) (by exact ix_list) (pe_callG GD gd (hr.mono (by decide)) rfl AD.g AD.k AD.b (pa_cons (pv 3) (pa_cons (pe_lst (pa_cons (pv 14) pa_nil)) pa_nil))) pe_int (fun _ _ => rfl)) pe_str (nomark _))))) (pss_one (ps_ret pe_bl)) pss_nil)
    (pss_one (ps_if (PW.pt (pw_or (pt_cmpR (op_neD hu64) (pe_callG GC gd (hr.mono (by decide)) rfl AC.g AC.k AC.b (pa_cons (pv 4) (pa_cons (pe_lst pa_nil) pa_nil))) (pe_callG GD gd (hr.mono (by decide)) rfl AD.g AD.k AD.b (pa_cons (pv 3) (pa_cons (pe_lst pa_nil) pa_nil))) (by rfl)) (pw_or1 (pt_cmpR (op_neD hu64) (pe_callG GC gd (hr.mono (by decide)) rfl AC.g AC.k AC.b (pa_cons (pe_make0 M G0 (hr.mono (by decide)) rfl Z.gF b0 v0 pass0) (pa_cons (pe_lst pa_nil) pa_nil))) (pe_lst (pa_cons pe_str (pa_cons pe_str pa_nil))) (by rfl))))) (pss_one (ps_ret pe_bl)) pss_nil)))))))))))))))))
    (pss_one (ps_ret pe_bl))), ?_⟩
  refine ⟨_, rfl, a0, _, rfl, .inl hS, _, _, rfl, _, _, rfl, _, rfl, (rng_ok _).1, (rng_ok _).2.1, ?_⟩
  refine for_range (lo := 0) (fun i σ H' => ∃ o1 o2 o3 o4 o5 o6 o7 o8 o9 o10 o11 o12 o13 o14 o15 : Option V, σ = [some (.ref a0), o1, o2, o3, o4, o5, o6, o7, o8, o9, o10, o11, o12, o13, o14, o15] ∧ SqL K H' a0 (ns.map V.int)) ⟨_, _, _, _, _, _, _, _, _, _, _, _, _, _, _, rfl, hS⟩ ?_ ?_
  · rintro i σ H1 hi ⟨o1, o2, o3, o4, o5, o6, o7, o8, o9, o10, o11, o12, o13, o14, o15, rfl, hS1⟩
    have i8 : i < 8 := Nat.lt_of_lt_of_le hi (rng_ok _).2.2
    refine ⟨_, rfl, _, rfl, a0, ns, _, rfl, hS1, by omega, by omega, fun n0 => ⟨n0, rfl, fun p H2 np sm2 hb2 => ?_⟩⟩
    dsimp only
    refine seq_i (asg_i ⟨_, rfl, p, 0, 4, rfl, hb2, by decide, by decide, by decide, fun A xs es H3 ed win asc ln few bt3 b3 h3 dv3 nA => ?_⟩)
    have l50 : es.length ≤ 50 := few.1 (by decide)
    have nAp : A ≠ p := hb2.ne nA
    have le3 : LE H3 A es := ⟨⟨xs, h3, dv3⟩, asc, ed, by omega⟩
    have s13 : Same H1 H3 := but_sameL np (but_tr (same_but sm2) bt3)
    dsimp only [gName]
    refine seq_i (par_i (cons_i (fig_mk hsp Z (mak_var (i := 3) (v := .ref A) rfl (.lst h3 dv3)) ed asc (by omega) fun x H4 s4 fx => cons_i ⟨_, rfl, _, rfl, p, A, es, 0 + 300, rfl, le3.more s4, b3.more s4, by decide, l50, fun W fv fs H5 b5 bx5 hW nW nsW dW okF pmF => nil_i ⟨_, _, rfl, ?_⟩⟩)))
    have bx4 := b3.more s4
    have nWp : W ≠ p := bx4.ne nW
    have lw5 : Lw CF H5 p A x W es fs := ⟨le_but (le3.more s4) nAp bx4 b5, nAp, (figE_hid bx4 fx).more (hid_but b5), .lst (hid_of hW nWp (.inr nsW)) (dvs_hid bx5 dW (imms_all fun d hd => by obtain ⟨w, _, rfl⟩ := List.mem_map.mp hd; exact wP_imm w))⟩
    have bt15 : But p H1 H5 := but_tr (same_but (same_tr s13 s4)) b5
    clear bt3 b3 h3 dv3 le3 s13 s4 fx bx4 b5 hW nW nsW dW sm2 hb2 nA
    have lenW : ∀ w ∈ fs, w.length ≤ 51 := fun w hw => by
      have h1 : (wE w).length ≤ (fs.flatMap wE).length := by
        obtain ⟨l, r, e⟩ := List.append_of_mem hw
        rw [e, List.flatMap_append, List.flatMap_cons, List.length_append, List.length_append]
        omega
      rw [pmF.length_eq, wE_len] at h1
      omega
    have lfs : fs.length ≤ 50 := by
      have h1 := fs_len okF
      rw [pmF.length_eq] at h1
      omega
    have okW : ∀ w ∈ fs, OkW 52 w := fun w hw => by
      refine ⟨walk_len (okF w hw), Nat.le_trans (lenW w hw) (by decide), fun y hy => ?_⟩
      have h := okF w hw
      have h : (decide (2 ≤ (w.map ptP).length) && ((w.map ptP).all ptB && (nbs (w.map ptP)).all id)) = true := h
      simp only [Bool.and_eq_true, List.all_eq_true] at h
      exact (ptB_ptP (h.2.1 _ (List.mem_map_of_mem hy))).2
    have gW : ∀ d ∈ fs.map wP, Gd 52 d := fun d hd => by
      obtain ⟨w, hw, rfl⟩ := List.mem_map.mp hd
      exact gd_walk (okW w hw).2.1 (by decide) (okW w hw).2.2
    have an := ans_div (asc_nodup asc) pmF okF
    dsimp only
    -- the walks themselves
    refine seq_i (ifs_i ?_)
    have askW' : ∀ d ∈ fs.map wP, askW d := fun d hd => (gW d hd).1.ask
    have itW : ∀ d ∈ fs.map wP, walkB d = false → Itm d := fun d hd _ => (gW d hd).1
    refine mkt_go (false || false) (mkt_or (mkt_test (mak_neAns (mak_cau (i := 4) rfl lw5.fig (by omega) (mkh_list (mak_var (i := 5) rfl (dv_of lw5.dW)) askW' itW (by rw [List.length_map]; omega))) (by rw [an]; exact mak_told) (by rw [an]; exact told_ok.1) (by rw [an]; exact told_ok.2))) fun _ => mkt_test (mak_neAns (mak_cau (i := 4) rfl lw5.fig (by omega) (mkh_tup (mak_tupL (mak_var (i := 5) rfl (dv_of lw5.dW))) askW' itW (by rw [List.length_map]; omega))) (by rw [an]; exact mak_told) (by rw [an]; exact told_ok.1) (by rw [an]; exact told_ok.2))) fun H6 s6 => ifF rfl (next_i ?_)
    have lw6 := lw5.same s6
    have bx6 := bx5.more s6
    have bt16 := but_more bt15 s6
    clear lw5 bx5 bt15 s6
    -- the odd ones
    dsimp only
    refine seq_i (asg_i ?_)
    refine mkb_go (R := (· = .list [.none, .int 0, .str "walk", .list [p2 0 0, p2 1 0], .tuple [p2 0 0], .tuple []])) (m := 450) (c := 0) (mkq_lst (mkq_cons mkb_non (mkq_cons mkb_int (mkq_cons mkb_str (mkq_cons (mkq_lst (mkq_cons (mkq_pt mkb_int mkb_int) (mkq_cons (mkq_pt mkb_int mkb_int) mkq_nil))) (mkq_cons (mkq_tup (mkq_cons (mkq_pt mkb_int mkb_int) mkq_nil)) (mkq_cons (mkq_tup mkq_nil) mkq_nil))))))) bx6 (by omega) fun v7 d7 H7 e7 b7 bx7 dv7 => ?_
    subst e7
    have lw7 := lw6.but bx6 b7
    have bt17 := but_tr bt16 b7
    dsimp only [gName]
    refine seq_i (asg_i (op_i ⟨_, rfl, ?_⟩))
    refine mkb_go (R := (· = .list [.tuple [p2 0 0, p2 1 1], .tuple [p2 0 0, p2 0 0], .tuple [p2 31 0, p2 30 0]])) (m := 450) (c := 0) (mkq_lst (mkq_cons (mkq_tup (mkq_cons (mkq_pt mkb_int mkb_int) (mkq_cons (mkq_pt mkb_int mkb_int) mkq_nil))) (mkq_cons (mkq_tup (mkq_cons (mkq_pt mkb_int mkb_int) (mkq_cons (mkq_pt mkb_int mkb_int) mkq_nil))) (mkq_cons (mkq_tup (mkq_cons (mkq_pt mkb_int mkb_int) (mkq_cons (mkq_pt mkb_int mkb_int) mkq_nil))) mkq_nil)))) bx7 (by omega) fun v8 d8 H8 e8 b8 bx8 dv8 => ?_
    subst e8
    have lw8 := lw7.but bx7 b8
    have bt18 := but_tr bt17 b8
    obtain ⟨O1, xs1, rfl, h1, dx1, _, _⟩ := dvh_lst (dvh_but b8 dv7)
    obtain ⟨O2, xs2, rfl, h2, dx2, _, _⟩ := dvh_lst dv8
    have ov := dvs_app dx1 dx2
    have lov : (xs1 ++ xs2).length = 9 := ov.length
    refine ⟨O1, O2, xs1, xs2, rfl, rfl, h1, h2, by rw [← List.length_append, lov]; decide, fun O nO nsO => ?_⟩
    have bt19 : But p H1 (upd H8 O (.lst (xs1 ++ xs2))) := but_more bt18 fun b o e => stay e nO
    have b89 : But p H8 (upd H8 O (.lst (xs1 ++ xs2))) := fun b o _ e => stay e nO
    have hO : upd H8 O (.lst (xs1 ++ xs2)) O = some (.lst (xs1 ++ xs2)) := upd_same
    have bx9 : BoxAt (upd H8 O (.lst (xs1 ++ xs2))) p ((450 : Nat) : Int) := bx8.more fun b o e => stay e nO
    have nOp : O ≠ p := bx8.ne nO
    have nO1 : H1 O = none := new_but bt18 nO nOp
    generalize upd H8 O (.lst (xs1 ++ xs2)) = H9 at bt19 b89 hO bx9
    generalize xs1 ++ xs2 = oxs at ov lov hO
    clear lw6 bx6 bt16 b7 bx7 dv7 lw7 bt17 b8 dv8 h1 h2 dx1 dx2 bt18
    dsimp only [gName]
    refine seq_i (par_i (cons_i (tk_i (p := p) rfl bx9 (by decide) mak_int (by decide) (by decide) fun xx Ha x0 x1 bxa ba => cons_i (op_i (c_i (tk_i (p := p) rfl bxa (by decide) mak_int (by decide) (by decide) fun yy Hb y0 y1 bxb bb => ⟨3, yy, rfl, rfl, nil_i ⟨_, _, rfl, ?_⟩⟩))))))
    have b9b := but_tr ba bb
    have hOb := b9b _ _ nOp hO
    dsimp only
    refine seq_i ⟨_, rfl, .inl ⟨rfl, _, SqL.of hOb⟩, cons_i ?_⟩
    refine mkb_go (R := fun d => ∃ u v : Int, d = .tuple [p2 xx (3 + yy), p2 u v] ∧ (0 ≤ u ∧ u ≤ 100) ∧ (-100 ≤ v ∧ v ≤ 100)) (m := 452) (c := 2) (mkb_weak (mkb_tup (mkb_cons (mkq_pt (mkb_var (i := 7) rfl (.int _)) (mkb_var (i := 8) rfl (.int _))) (mkb_cons (mkb_tup (mkb_cons (mkb_op (g := fun i j => i + j) (mkb_op (g := fun i j => i + j) (mkb_var (i := 7) rfl (.int _)) (mkb_take (i := 2) rfl mkb_int ?_) ?_ ?_) mkb_int ?_ ?_) (mkb_cons (mkb_op (g := fun i j => i - j) (mkb_op (g := fun i j => i + j) (mkb_var (i := 8) rfl (.int _)) (mkb_take (i := 2) rfl mkb_int ?_) ?_ ?_) mkb_int ?_ ?_) mkb_nil)) ?_) mkb_nil)) ?_) ?_) (bxb.le (by decide)) (by decide) fun vo do_ Hc hdo bc bxc dvo => nil_i ?_
    any_goals first
      | (rintro d rfl; exact ⟨_, rfl, by decide, by decide⟩)
      | (rintro d rfl; exact ⟨_, rfl⟩)
      | (rintro d ⟨_, _, rfl, _⟩; exact ⟨_, rfl⟩)
      | (rintro ds ⟨d, r, rfl, _, d', r', rfl, _, rfl⟩; exact Nat.le_of_ble_eq_true rfl)
    · rintro d ⟨ds, rfl, d1, r1, rfl, rfl, d2, r2, rfl, ⟨es2, rfl, d3, r3, rfl, ⟨i1, j1, rfl, ⟨i2, j2, e1, e2, ⟨i3, j3, e3, e4, g1, g2⟩⟩, e5⟩, d4, r4, rfl, ⟨i4, j4, rfl, ⟨i5, j5, e6, e7, ⟨i6, j6, e8, e9, g3, g4⟩⟩, e10⟩, rfl⟩, rfl⟩
      cases e1
      cases e2
      cases e3
      cases e4
      cases e5
      cases e6
      cases e7
      cases e8
      cases e9
      cases e10
      exact ⟨_, _, rfl, by omega, by omega⟩
    obtain ⟨u, v, rfl, hu', hv'⟩ := hdo
    have hOc := bc _ _ nOp hOb
    have b8c : But p H8 Hc := but_tr b89 (but_tr b9b bc)
    refine ⟨O, oxs, vo, rfl, rfl, hOc, by rw [lov]; decide, ?_⟩
    have tkO : Tk Hc (upd Hc O (.lst (oxs ++ [vo]))) := but_tk but_upd fun ws e => by rw [hOc] at e; cases e
    have bxd : BoxAt (upd Hc O (.lst (oxs ++ [vo]))) p ((454 : Nat) : Int) := box_but bxc nOp but_upd
    have nO8 : H8 O = none := nO
    have b8d : But p H8 (upd Hc O (.lst (oxs ++ [vo]))) := but_set b8c nO8
    have dvd : DV (hid p (upd Hc O (.lst (oxs ++ [vo])))) (.ref O) (.list (oddL xx (3 + yy) u v |>.take 10)) := .lst (hid_of upd_same nOp (.inr nsO)) (dvs_app (dvhs_but b8d ov) (.cons (dv_hid bxd (dv_tk tkO (dv_of dvo) rfl) rfl) .nil))
    have bt1d : But p H1 (upd Hc O (.lst (oxs ++ [vo]))) := but_set (but_tr bt19 (but_tr b9b bc)) nO1
    have lwd := lw8.but bx8 b8d
    generalize upd Hc O (.lst (oxs ++ [vo])) = Hd at bxd b8d dvd bt1d lwd
    clear hOc b8c tkO dvo bc bxc hOb b9b bb bxb ba bxa ov lov hO bx9 b89 bt19 lw8 bx8 nO8
    dsimp only
    -- more of them
    refine seq_i (asg_i ?_)
    have X7 : MakB p 0 [some (V.ref a0), some (.int (0 + (i : Int))), some (.ref p), some (.ref A), some (.ref x), some (.ref W), some (.ref O), some (.int xx), some (.int (3 + yy)), o9, o10, o11, o12, o13, o14, o15] Hd (tVar 7) (· = .int xx) := mkb_var rfl (.int _)
    refine mkb_go (R := (· = .list ((oddL xx (3 + yy) u v).take 14))) (m := 454) (c := 0) (mkq_cat (mkb_var (i := 6) rfl dvd) (mkq_lst (mkq_cons (mkq_tup (mkq_cons (mkq_pt X7 (mkq_op (g := fun i j => i - j) mkb_int mkb_int)) (mkq_cons (mkq_pt X7 mkb_int) mkq_nil))) (mkq_cons (mkq_tup (mkq_cons (mkq_pt X7 mkb_int) (mkq_cons (mkq_pt X7 mkb_int) mkq_nil))) (mkq_cons (mkq_tup (mkq_cons (mkq_pt mkb_int mkb_int) (mkq_cons (mkq_tup (mkq_cons mkb_int (mkq_cons mkb_int (mkq_cons mkb_int mkq_nil)))) mkq_nil))) (mkq_cons (mkq_tup (mkq_cons (mkq_tup (mkq_cons mkb_int (mkq_cons mkb_non mkq_nil))) (mkq_cons (mkq_pt mkb_int mkb_int) mkq_nil))) mkq_nil)))))) bxd (by decide) fun ve de He ee be bxe dve => ?_
    subst ee
    have lwe := lwd.but bxd be
    have bt1e := but_tr bt1d be
    dsimp only [gName]
    refine seq_i (asg_i ?_)
    refine mkb_go (R := (· = .list (oddL xx (3 + yy) u v))) (m := 454) (c := 0) (mkq_cat (mkb_var (i := 6) rfl dve) (mkq_lst (mkq_cons (mkq_tup (mkq_cons (mkq_pt mkb_int mkb_int) (mkq_cons (mkq_tup (mkq_cons mkb_bl (mkq_cons mkb_int mkq_nil))) mkq_nil))) (mkq_cons (mkq_tup (mkq_cons (mkq_pt mkb_int mkb_int) (mkq_cons (mkq_lst (mkq_cons mkb_int (mkq_cons mkb_int mkq_nil))) mkq_nil))) (mkq_cons (mkq_pt mkb_int mkb_int) (mkq_cons (mkq_tup (mkq_cons (mkq_pt mkb_int mkb_int) (mkq_cons (mkq_pt mkb_int mkb_int) (mkq_cons (mkq_pt mkb_int mkb_int) mkq_nil)))) (mkq_cons mkb_emp mkq_nil))))))) bxe (by decide) fun vf df Hf ef bf bxf dvf => ?_
    subst ef
    have lwf := lwe.but bxe bf
    have bt1f := but_tr bt1e bf
    clear lwd bt1d lwe bt1e dvd dve bxd bxe be bf X7 b8d
    have god := odd_gd (x := xx) (y := 3 + yy) (u := u) (v := v) (L := 52) (by omega) (by omega) hu' hv' (by decide)
    have lod := odd_len xx (3 + yy) u v
    generalize oddL xx (3 + yy) u v = od at dvf god lod
    obtain ⟨Od, ods, rfl, _⟩ := dvh_lst dvf
    dsimp only [gName]
    -- the turns
    refine rest2 (fun σ' H' => ∃ o9 o10 o11 o12 : Option V, σ' = [some (.ref a0), some (.int (0 + (i : Int))), some (.ref p), some (.ref A), some (.ref x), some (.ref W), some (.ref Od), some (.int xx), some (.int (3 + yy)), o9, o10, o11, o12, o13, o14, o15] ∧ But p Hf H' ∧ BoxAt H' p ((1000 : Nat) : Int)) (fun X hX => ⟨8, rfl, (by decide), (by decide), for_range (lo := 0) (fun j σ' H' => ∃ o9 o10 o11 o12 : Option V, σ' = [some (.ref a0), some (.int (0 + (i : Int))), some (.ref p), some (.ref A), some (.ref x), some (.ref W), some (.ref Od), some (.int xx), some (.int (3 + yy)), o9, o10, o11, o12, o13, o14, o15] ∧ But p Hf H' ∧ BoxAt H' p ((500 + 60 * j : Nat) : Int)) ⟨_, _, _, _, rfl, but0 p Hf, bxf.le (by decide)⟩ ?_ ?_⟩) ?_
    · rintro j σ' Hg hj ⟨o9, o10, o11, o12, rfl, bfg, bxg⟩
      have j8 : j < 8 := hj
      have lwj := lwf.but bxf bfg
      have dOj := dvh_but bfg dvf
      dsimp only [gName]
      refine seq_i (asg_i ⟨_, rfl, _, rfl, _, rfl, _, rfl, p, 500 + 60 * j, W, W, Od, fs.map wP, fs, od, 52, rfl, bxg, by omega, lwj.dW, lwj.dW, dOj, lod, by rw [List.length_map]; omega, by omega, gW, god, okW, ⟨by decide, by decide⟩, fun S1 zd1 Hh bh bxh dS1 lz1 gz1 => ?_⟩)
      rw [List.length_map] at lz1
      dsimp only [gName]
      refine rest2 (fun σ' H' => ∃ (S : Addr) (zd : List PyData), σ' = [some (.ref a0), some (.int (0 + (i : Int))), some (.ref p), some (.ref A), some (.ref x), some (.ref W), some (.ref Od), some (.int xx), some (.int (3 + yy)), some (.int (0 + (j : Int))), some (.ref S), o11, o12, o13, o14, o15] ∧ But p Hg H' ∧ BoxAt H' p ((500 + 60 * j + 60 : Nat) : Int) ∧ DV (hid p H') (.ref S) (.list zd) ∧ zd.length ≤ 60 ∧ ∀ d ∈ zd, Gd 54 d) (fun X hX => ifs_i (test_i (op_i (op_i ⟨_, rfl, _, _, rfl, rfl, (by show (0 : Int) < 2; decide), rfl, _, rfl, ?_⟩)))) ?_
      · by_cases c : (0 + (j : Int)) % 2 = 1
        · refine ifT (decide_eq_true (congrArg V.int c)) (asg_i ⟨_, rfl, _, rfl, _, rfl, _, rfl, p, 500 + 60 * j + 30, S1, W, Od, zd1, fs, od, 53, rfl, bxh, by omega, dS1, dvh_but bh lwj.dW, dvh_but bh dOj, lod, by omega, by omega, gz1, fun d hd => (god d hd).le (by decide), fun w hw => (okW w hw).le (by decide), ⟨by decide, by decide⟩, fun S2 zd2 Hi bi bxi dS2 lz2 gz2 => hX _ _ ⟨S2, zd2, rfl, but_tr bh bi, bxi, dS2, by omega, gz2⟩⟩)
        · refine ifF (decide_eq_false fun e => c (V.int.inj e)) (next_i (hX _ _ ⟨S1, zd1, rfl, bh, bxh.le (by omega), dS1, by omega, fun d hd => (gz1 d hd).le (by decide)⟩))
      clear dS1 lz1 gz1 bh bxh
      rintro σ' Hh ⟨S, zd, rfl, bh, bxh, dS, lz, gz⟩
      have lwh := lwj.but bxg bh
      have ask : ∀ d ∈ zd, askW d := fun d hd => (gz d hd).1.ask
      have it : ∀ d ∈ zd, walkB d = false → Itm d := fun d hd _ => (gz d hd).1
      obtain ⟨S', sv, eS, hS, dsv, nS, nsS⟩ := dvh_lst dS
      cases eS
      have okA := hand_ok (hand_list (K := K) (CF := CF) (es := es) (dv_of dS) ask it (by omega))
      -- what is due, and a copy
      refine seq_i (par_i (cons_i ?_))
      refine mak_go (ansD (ansK es zd)) (mak_due (i := 3) rfl lwh.le (mkh_list (mak_var (i := 10) rfl (dv_of dS)) ask it (by omega))) fun vd Hi si dd => ?_
      refine cons_i (cb_i (cons_i ⟨_, rfl, nil_i ⟨S, sv, rfl, .inl (SqL.of (si _ _ hS)), fun Hn nHn nsHn => nil_i ⟨_, _, rfl, ?_⟩⟩⟩))
      have sj : Same Hi (upd Hi Hn (.lst sv)) := fun b o e => stay e nHn
      have bxi := bxh.more si
      have bxj := bxi.more sj
      have shj := same_tr si sj
      have dn : DV (hid p (upd Hi Hn (.lst sv))) (.ref Hn) (.list zd) := .lst (hid_of upd_same (bxi.ne nHn) (.inr nsHn)) (dsv.more (hid_same shj))
      have dSj := dS.more (hid_same shj)
      have ddj := dd.more sj
      have lwk := lwh.same shj
      generalize upd Hi Hn (.lst sv) = Hj at sj bxj shj dn dSj ddj lwk
      have ni := nice_list gz (by omega)
      dsimp only
      refine ifs_i ?_
      refine mkt_go (false || false) (mkt_or (mkt_test (mak_neAns (mak_cau (i := 4) rfl lwk.fig (by omega) (mkh_list (mak_var (i := 12) rfl (dv_of dn)) ask it (by omega))) (mak_var (i := 11) rfl ddj) okA.1 okA.2)) fun _ => mkt_test (mak_neStr (mak_repH (i := 12) rfl dn ni) (mak_repH (i := 10) rfl dSj ni))) fun Hk sk => ifF rfl (next_i ?_)
      exact ⟨_, _, _, _, rfl, but_more (but_tr bfg bh) (same_tr shj sk), (bxj.more sk).le (by omega)⟩
    · rintro σ' H' ⟨o9, o10, o11, o12, rfl, b', bx'⟩
      exact hX _ _ ⟨o9, o10, o11, o12, rfl, b', bx'.le (by decide)⟩
    rintro σ' Hg ⟨o9', o10', o11', o12', rfl, bfg, bxg⟩
    have lwg := lwf.but bxf bfg
    have bt1g := but_tr bt1f bfg
    clear lwf bxf bt1f dvf god lod bfg
    -- other values
    refine rest2 (fun σ' H' => ∃ o13 o15 : Option V, σ' = [some (.ref a0), some (.int (0 + (i : Int))), some (.ref p), some (.ref A), some (.ref x), some (.ref W), some (.ref Od), some (.int xx), some (.int (3 + yy)), o9', o10', o11', o12', o13, o14, o15] ∧ Same Hg H') (fun X hX => forl_i (op_i (lst_i (cons_i (c_i (cons_i (c_i (cons_i (c_i (cons_i fun D0 nD0 => cons_i (c_i (cons_i (c_i (cons_i ⟨_, rfl, nil_i ⟨(by show 7 ≤ sizeLine; decide), fun L1 nL1 => ?_⟩⟩)))))))))))))) ?_
    · have sa : Same Hg (upd (upd Hg D0 (.dK [])) L1 (.lst [.non, .int 0, .str "", .ref D0, .bl true, .str "walks", .ref x])) := fun b o e => stay (stay e nD0) nL1
      have hD0 : upd (upd Hg D0 (.dK [])) L1 (.lst [.non, .int 0, .str "", .ref D0, .bl true, .str "walks", .ref x]) D0 = some (.dK []) := stay upd_same nL1
      have hL1 : upd (upd Hg D0 (.dK [])) L1 (.lst [.non, .int 0, .str "", .ref D0, .bl true, .str "walks", .ref x]) L1 = some (.lst [.non, .int 0, .str "", .ref D0, .bl true, .str "walks", .ref x]) := upd_same
      generalize upd (upd Hg D0 (.dK [])) L1 (.lst [.non, .int 0, .str "", .ref D0, .bl true, .str "walks", .ref x]) = Hh at sa hD0 hL1
      have lwh := lwg.same sa
      refine mak_go (.list ((((fs.map wP).take 1).filter fun _ => true).map fun d => d)) (mak_lc (fun _ => true) (fun d => d) (mak_slL1 (mak_var (i := 5) rfl (dv_of lwh.dW))) (by rw [List.length_take]; omega) (fun d hd => by obtain ⟨w, _, rfl⟩ := List.mem_map.mp (List.mem_of_mem_take hd); exact wP_imm w) ?_) fun v2 Hi si dv2 => ?_
      · intro H5 x5 d5 s5 m5 dv5
        exact ⟨_, by rfl, fun Q q => q, mkt_yes, fun _ => mak_var (i := 15) rfl dv5⟩
      obtain ⟨L2', ys, rfl, hL2, dys⟩ := dv_lst dv2
      rw [List.map_id', List.filter_eq_self.mpr fun _ _ => rfl] at dys
      have lys : ys.length ≤ 1 := by rw [dys.length, List.length_take]; omega
      refine ⟨L1, L2', _, ys, rfl, rfl, si _ _ hL1, hL2, Nat.le_trans (show 7 + ys.length ≤ 10 by omega) (by decide), fun L3 nL3 => ?_⟩
      have sj : Same Hi (upd Hi L3 (.lst ([.non, .int 0, .str "", .ref D0, .bl true, .str "walks", .ref x] ++ ys))) := fun b o e => stay e nL3
      have hL3 : upd Hi L3 (.lst ([.non, .int 0, .str "", .ref D0, .bl true, .str "walks", .ref x] ++ ys)) L3 = some (.lst ([.non, .int 0, .str "", .ref D0, .bl true, .str "walks", .ref x] ++ ys)) := upd_same
      have hands : ∀ v ∈ ([.non, .int 0, .str "", .ref D0, .bl true, .str "walks", .ref x] ++ ys : List V), ∃ a, Hand K CF es (upd Hi L3 (.lst ([.non, .int 0, .str "", .ref D0, .bl true, .str "walks", .ref x] ++ ys))) v a := by
        intro v hv
        rcases List.mem_append.mp hv with h | h
        · simp only [List.mem_cons, List.not_mem_nil, or_false] at h
          rcases h with rfl | rfl | rfl | rfl | rfl | rfl | rfl
          · exact ⟨_, hand_odd .non rfl nice_non (by simp [okS])⟩
          · exact ⟨_, hand_odd (.int 0) rfl (nice_int (by decide)) (by simp [okS])⟩
          · exact ⟨_, hand_odd (.str "") rfl nice_emp.1 nice_emp.2⟩
          · exact ⟨_, hand_odd (.emp (sj _ _ (si _ _ hD0))) rfl ⟨rfl, by decide, by decide, fun _ => rfl⟩ (by simp [okS])⟩
          · exact ⟨_, hand_odd (.bl true) rfl (nice_bl true) (by simp [okS])⟩
          · exact ⟨_, hand_odd (.str "walks") rfl nice_wks.1 nice_wks.2⟩
          · exact ⟨_, hand_fig Z ((lwh.same si).same sj).fig (by omega)⟩
        · obtain ⟨k, hk, ek⟩ := List.mem_iff_getElem.mp h
          obtain ⟨d, hd, dvd⟩ := dys.at k v (by rw [List.getElem?_eq_getElem hk, ek])
          obtain ⟨w, hw, rfl⟩ := List.mem_map.mp (List.mem_of_mem_take (List.mem_of_getElem? hd))
          exact ⟨_, hand_walk (dvd.more sj) ((okW w hw).le (by decide))⟩
      have lwj := (lwh.same si).same sj
      generalize upd Hi L3 (.lst ([.non, .int 0, .str "", .ref D0, .bl true, .str "walks", .ref x] ++ ys)) = Hj at sj hL3 hands lwj
      generalize ([.non, .int 0, .str "", .ref D0, .bl true, .str "walks", .ref x] ++ ys : List V) = vals at hL3 hands
      have sgj := same_tr sa (same_tr si sj)
      refine ⟨L3, rfl, ⟨_, SqL.of hL3⟩, for_at (n := vals.length) (fun k σ' H' => ∃ o13 : Option V, σ' = [some (.ref a0), some (.int (0 + (i : Int))), some (.ref p), some (.ref A), some (.ref x), some (.ref W), some (.ref Od), some (.int xx), some (.int (3 + yy)), o9', o10', o11', o12', o13, o14, o15] ∧ Same Hj H') ⟨_, rfl, same0 _⟩ ?_ ?_ ?_ ?_⟩
      · rintro k σ' H' hk ⟨o13, rfl, sk⟩
        exact ⟨vals, vals[k], SqL.of (sk _ _ hL3), List.getElem?_eq_getElem hk⟩
      · rintro σ' H' ⟨o13, rfl, sk⟩
        exact ⟨vals, SqL.of (sk _ _ hL3), Nat.le_refl _⟩
      · rintro k v σ' H' H'' hk ⟨o13, rfl, sk⟩ y
        obtain ⟨rfl, hv⟩ := y
        obtain ⟨a, ha⟩ := hands v (List.mem_of_getElem? (hv _ (SqL.of (sk _ _ hL3))))
        have ha := ha.more sk
        have lwk := lwj.same sk
        have okA := hand_ok ha
        dsimp only [gName]
        refine ifs_i ?_
        refine mkt_go false (mkt_test (mak_neAns (mak_cau (i := 4) rfl lwk.fig (by omega) (mkh_var (i := 13) rfl ha)) (mak_due (i := 3) rfl lwk.le (mkh_var (i := 13) rfl ha)) okA.1 okA.2)) fun H5 s5 => ifF rfl (next_i ⟨_, rfl, same_tr sk s5⟩)
      · rintro σ' H' ⟨o13, rfl, sk⟩
        exact hX _ _ ⟨o13, o15, rfl, same_tr sgj sk⟩
    rintro σ' Hh ⟨o13', o15', rfl, sgh⟩
    have lwh := lwg.same sgh
    have bxh := bxg.more sgh
    have bt1h := but_more bt1g sgh
    clear lwg bxg bt1g sgh
    -- a long walk
    refine rest2 (fun σ' H' => ∃ (v : V) (k : Nat), σ' = [some (.ref a0), some (.int (0 + (i : Int))), some (.ref p), some (.ref A), some (.ref x), some (.ref W), some (.ref Od), some (.int xx), some (.int (3 + yy)), o9', o10', o11', o12', o13', some v, o15'] ∧ k ≤ 210 ∧ But p Hh H' ∧ (∃ m : Int, BoxAt H' p m) ∧ DV H' v (wP (longP (k + 1)))) (fun X hX => asg_i (op_i ?_)) ?_
    · refine mak_go (.tuple [p2 3 3, p2 3 4]) (mak_tup (mak_cons (mak_tup (mak_cons mak_int (mak_cons mak_int mak_nil))) (mak_cons (mak_tup (mak_cons mak_int (mak_cons mak_int mak_nil))) mak_nil))) fun v2 Hi si dv2 => ?_
      have bxi := bxh.more si
      refine op_i (c_i (tk_i (p := p) rfl bxi (by decide) mak_int (by decide) (by decide) fun r Hj r0 r1 bxj bj => ⟨200, r, rfl, rfl, ?_⟩))
      obtain ⟨T2, u1, u2, rfl, hT2, d1, d2⟩ := dv_pair dv2
      have nT : T2 ≠ p := box_ne bxi hT2 fun xs e => nomatch e
      have tk := but_tk bj (box_notup bxi)
      refine ⟨T2, 200 + r, [u1, u2], rfl, rfl, SqT.of (bj _ _ nT hT2), (fun e => nomatch e), by omega, by omega, (by show 2 ≤ 1000; decide), fun g ng => ?_⟩
      have sk : Same Hj (upd Hj g (.tup (List.replicate (200 + r).toNat [u1, u2]).flatten)) := fun b o e => stay e ng
      have ek : (200 + r).toNat = (199 + r.toNat) + 1 := by omega
      refine hX _ _ ⟨.ref g, 199 + r.toNat, rfl, by omega, but_more (but_tr (same_but si) bj) sk, ⟨_, bxj.more sk⟩, .tup (xs := (List.replicate (200 + r).toNat [u1, u2]).flatten) upd_same ?_⟩
      rw [← ek]
      exact dvs_long ((dv_tk tk d1 rfl).more sk) ((dv_tk tk d2 rfl).more sk) _
    rintro σ' Hi ⟨vl, k, rfl, lk, bhi, ⟨mi, bxi⟩, dvl⟩
    have lwi := lwh.but bxh bhi
    have bt1i := but_tr bt1h bhi
    clear lwh bxh bt1h bhi
    have wl := long_walk k
    have ll := long_len (k + 1)
    generalize longP (k + 1) = lp at dvl wl ll
    have askL : ∀ d ∈ [wP lp], askW d := fun d hd ds e => by
      rw [List.mem_singleton.mp hd] at e
      have e := PyData.tuple.inj e
      subst e
      refine ⟨by rw [List.length_map]; omega, fun q hq es' e2 l2 f hf => ?_⟩
      obtain ⟨y, _, rfl⟩ := List.mem_map.mp hq
      have e2 := PyData.tuple.inj e2
      subst e2
      rcases List.mem_cons.mp hf with rfl | hf
      · rfl
      · rw [List.mem_singleton.mp hf]
        rfl
    have itL : ∀ d ∈ [wP lp], walkB d = false → Itm d := fun d hd nw => by
      rw [List.mem_singleton.mp hd, wl] at nw
      cases nw
    have eL : ansK es [wP lp] = (("told" : Str), (optD (faultO es [wP lp])).shown) := by
      unfold ansK
      rw [List.find?_eq_none.mpr fun d hd => by rw [List.mem_singleton.mp hd, wl]; decide]
    have mL : ∀ {H' : Hp}, Same Hi H' → MakH K CF es [some (.ref a0), some (.int (0 + (i : Int))), some (.ref p), some (.ref A), some (.ref x), some (.ref W), some (.ref Od), some (.int xx), some (.int (3 + yy)), o9', o10', o11', o12', o13', some vl, o15'] H' (tLst (tCons (tVar 14) tNil)) (ansK es [wP lp]) := fun s => mkh_list (mak_lst (mak_cons (mak_var (i := 14) rfl (dvl.more s)) mak_nil)) askL itL (by show 1 ≤ 500; decide)
    have okL : PyData.strOk (ansK es [wP lp]).1 = true ∧ PyData.strOk (ansK es [wP lp]).2 = true := by
      rw [eL]
      refine ⟨ok_of "told", ?_⟩
      cases faultO es [wP lp] with
      | none => exact ok_shown .none (by simp [okS])
      | some i => exact ok_int _
    refine seq_i (ifs_i ?_)
    refine mkt_go (false || false) (mkt_or (mkt_test (mak_neAns (mak_cau (i := 4) rfl lwi.fig (by omega) (mL (same0 _))) (mak_due (i := 3) rfl lwi.le (mL (same0 _))) okL.1 okL.2)) fun _ => mkt_test (mak_neStr (z := "told") (mak_ixL0 (k := 0) (mak_due (i := 3) rfl lwi.le (mL (same0 _))) (by rw [eL]; rfl)) mak_str)) fun Hj sj => ifF rfl (next_i ?_)
    have lwj := lwi.same sj
    -- no walks
    dsimp only
    have okN := hand_ok (hand_list (K := K) (CF := CF) (es := es) (H := upd Hj 0 (.lst [])) (v := .ref 0) (ds := []) (.lst upd_same .nil) (fun d h => nomatch h) (fun d h => nomatch h) (by decide))
    have mN : ∀ {fs : List Eg} {H' : Hp}, MakH K CF fs [some (.ref a0), some (.int (0 + (i : Int))), some (.ref p), some (.ref A), some (.ref x), some (.ref W), some (.ref Od), some (.int xx), some (.int (3 + yy)), o9', o10', o11', o12', o13', some vl, o15'] H' (tLst tNil) (ansK fs []) := fun {fs H'} => mkh_list (mak_lst mak_nil) (fun d h => nomatch h) (fun d h => nomatch h) (by decide)
    refine ifs_i ?_
    refine mkt_go (false || false) (mkt_or (mkt_test (mak_neAns (mak_cau (i := 4) rfl lwj.fig (by omega) mN) (mak_due (i := 3) rfl lwj.le mN) okN.1 okN.2)) fun _ => mkt_test (mak_neAns (a := (("told" : Str), ("None" : Str))) (fun H' Q' s' q' => ?_) mak_told told_ok.1 told_ok.2)) fun Hk sk => ifF rfl (next_i ?_)
    · refine call_i (cons_i (fig0_i ke fun z H1' s1 fz => cons_i ?_))
      exact mN H1' _ (same0 _) fun v H2' s2 ha => nil_i ⟨z, [], v, _, rfl, fz.more s2, (by decide), ha, fun L H3' s3 hL => q' _ H3' (same_tr s1 (same_tr s2 s3)) (.lst hL (.cons (.str _) (.cons (.str _) .nil)))⟩
    · exact ⟨_, _, _, _, _, _, _, _, _, _, _, _, _, _, _, rfl, sql_same (same_tr (but_sameL np bt1i) (same_tr sj sk)) hS1⟩
  · rintro σ H' _
    exact q H'

end
end Y1
set_option Elab.async false
set_option linter.all false
set_option maxRecDepth 100000
set_option maxHeartbeats 16000000
/-! What the module says, together. -/
namespace Y1
open PySem PySem.Spec PyProof.Rows L2 Nv
def intK (u : Option (Option Value)) (i : Int) : Bool := match u with
  | some (some (.int j _)) => decide (j = i)
  | _ => false
theorem intK_of {u : Option (Option Value)} {i : Int} (h : intK u i = true) : ∃ t, u = some (some (.int i t)) := by
  unfold intK at h
  split at h
  · exact ⟨_, by rw [of_decide_eq_true h]⟩
  · cases h
def tabB (K : PySem.W.Frag) (fI : Addr) (Cs : List Addr) : Bool := metaB K fI && (Cs.all fun C => classB K C fI)
def clsB (K : PySem.W.Frag) (C : Addr) : Bool := PySem.W.plainGet K C Str.empty && (PySem.W.hasDictIn K C && (PySem.W.plainOver K C && PySem.W.findIn K (.ref C) "__setattr__" == some (some (.builtin "object.__setattr__"))))
theorem clsB_of {K : PySem.W.Frag} {C : Addr} (h : clsB K C = true) : Cls K C := by
  unfold clsB at h
  simp only [Bool.and_eq_true, beq_iff_eq] at h
  exact ⟨h.1, h.2.1, h.2.2.1, h.2.2.2⟩
def noB (K : PySem.W.Frag) (C : Addr) (f : Str) : Bool := PySem.W.findIn K (.ref C) f == some none
/-- Figure and Held, as one look -/
def figB (K : PySem.W.Frag) (CF CH : Addr) : Bool := clsB K CF && (clsB K CH && (noB K CF "edges" && (noB K CF "_held" && (noB K CF "_letters" && (noB K CF "_forks" && (noB K CF "_ground" && (noB K CH "by_number" &&
  ((tyNs.all fun n => PySem.W.kitOne K (.type n) (.ref CH) == some false) && (PySem.W.kitOne K (.ref CF) (.ref CH) == some false && ((tyNs.all fun n => PySem.W.kitOne K (.type n) (.ref CF) == some false) && (PySem.W.kitOne K (.ref CF) (.ref CF) == some true && (PySem.W.kitAny K (.ref CF) seqs == some false &&
  (PySem.W.findIn K (.ref CF) "__class__" == some (some (.builtin "object.__class__")) && (PySem.W.specialIn K (.builtin "object.__class__") "__get__" == some (some (.builtin "getset_descriptor.__get__")) && (PySem.W.takesIn K (.builtin "object.__class__") == some true && (PySem.W.mroIn K CF (.type "object") == some true &&
  (PySem.W.makesIn K CF && PySem.W.keepIn K (.ref CF))))))))))))))))))
def heldB (K : PySem.W.Frag) (CH : Addr) : Bool := PySem.W.kitOne K (.ref CH) (.ref CH) == some true && (PySem.W.findIn K (.ref CH) "__class__" == some (some (.builtin "object.__class__")) && (PySem.W.mroIn K CH (.type "object") == some true && (PySem.W.makesIn K CH && PySem.W.keepIn K (.ref CH))))
def mkB (K : PySem.W.Frag) (fG : Addr) : Bool := PySem.W.isFn K (.ref fG)
def eqB (K : PySem.W.Frag) (C f : Addr) : Bool := PySem.W.findIn K (.ref C) "__ne__" == some (some (.builtin "object.__ne__")) && (PySem.W.isFn K (.ref f) && (PySem.W.mroIn K C (.type "object") == some true && (tyNs.all fun T => PySem.W.notFirst K C (.type T))))
def opB (K : PySem.W.Frag) (C f : Addr) (nm : String) : Bool := PySem.W.selfFirst K C && (PySem.W.findIn K (.ref C) (PySem.dunder nm) == some (some (.ref f)) && (PySem.W.isFn K (.ref f) && (PySem.W.findIn K (.ref C) (dunderR nm) == some none &&
  (tyNs.all fun T => (PySem.W.findIn K (.type T) (PySem.dunder nm)).isSome && ((PySem.W.findIn K (.type T) (dunderR nm)).isSome && PySem.W.subIn K (.type T) (.ref C) == some false)))))
theorem opB_of {K : PySem.W.Frag} {C f : Addr} {nm : String} (h : opB K C f nm = true) : OpB K C f nm tyNs := by
  unfold opB at h
  simp only [Bool.and_eq_true, beq_iff_eq, List.all_eq_true] at h
  exact ⟨h.1, h.2.1, h.2.2.1, h.2.2.2.1, h.2.2.2.2⟩
/-- the one default of __init__ -/
def oneB (its : Array Value) : Bool := match its.toList with
  | [.ref _] => true
  | _ => false
def firstR (its : Array Value) : Addr := match its.toList with
  | [.ref e] => e
  | _ => 0
theorem oneB_of {its : Array Value} (h : oneB its = true) : its = [Value.ref (firstR its)].toArray := by
  unfold oneB at h
  unfold firstR
  split at h
  · rename_i e he
    have t : its = its.toList.toArray := (Array.toArray_toList).symm
    exact t.trans (by rw [he])
  · cases h
def isTupV : Value → Bool
  | .type t => t == "tuple"
  | _ => false
theorem isTupV_of {v : Value} (h : isTupV v = true) : v = .type "tuple" := by
  unfold isTupV at h
  split at h
  · rw [beq_iff_eq.mp h]
  · cases h
def empD : PySem.Data → Bool
  | .seq its _ => its.size == 0
  | _ => false
def emptyB (K : PySem.W.Frag) (e : Addr) : Bool := match K.lookup e with
  | some o => isTupV o.cls && empD o.data
  | none => false
theorem emptyB_of {K : PySem.W.Frag} {e : Addr} (h : emptyB K e = true) : KEmp K e := by
  unfold emptyB at h
  split at h
  · rename_i o ho
    obtain ⟨h1, h2⟩ := Bool.and_eq_true_iff.mp h
    have c := isTupV_of h1
    refine ⟨fun H => .kTuple ho c, fun H => .inr ?_⟩
    unfold empD at h2
    split at h2
    · rename_i its n hd
      have z := beq_iff_eq.mp h2
      refine ⟨o, its, n, ho, c, hd, by rw [z]; exact Nat.zero_le _, ?_⟩
      have : its.toList = [] := List.eq_nil_of_length_eq_zero (by rw [Array.length_toList]; exact z)
      rw [this]
      exact .nil
    · cases h2
  · cases h
/-- which handler takes which -/
def exB (K : PySem.W.Frag) (CL CW : Addr) : Bool := PySem.W.exmOne K (.ref CL) (.ref CL) == some true && (PySem.W.exmOne K (.ref CW) (.ref CL) == some false && PySem.W.exmOne K (.ref CW) (.ref CW) == some true)

theorem all_mk {P : Program} {w : World} {K : PySem.W.Frag} {h : Heap} {mg : Str → Option Value} {fa fI fG dT aW C0 C1 C2 C3 C4 C5 C6  f0 f1 f2 f3 f4 f5 f6 f7 f8 f9 f10 f11 f12 f13 f14 f15 f16 f17 f18 f19 f20 f21 f22 : Addr} (X : K.In h) (G : h.Ns mainGlobals mg) (hfa : mg "law" = some (.ref fa))
    {od0 an0 od1 an1 od2 an2 od3 an3 od4 an4 od5 an5 od6 an6 od7 an7 od8 an8 od9 an9 od10 an10 od11 an11 od12 an12 od13 an13 od14 an14 od15 an15 od16 an16 od17 an17 od18 an18 od19 an19 od20 an20 od21 an21 od22 an22 odI anI odG anG odT : Option Addr} {sl0 sl1 sl2 sl3 sl4 sl5 sl6 sl7 sl8 sl9 sl10 sl11 sl12 sl13 sl14 sl15 sl16 sl17 sl18 sl19 sl20 sl21 sl22 slI slG slT : Array (Option Value)} {oc0 kV0 dc0 pm0 cd0 ct0 oc1 kV1 dc1 pm1 cd1 ct1 oc2 kV2 dc2 pm2 cd2 ct2 oc3 kV3 dc3 pm3 cd3 ct3 oc4 kV4 dc4 pm4 cd4 ct4 oc5 kV5 dc5 pm5 cd5 ct5 oc6 kV6 dc6 pm6 cd6 ct6 oc7 kV7 dc7 pm7 cd7 ct7 oc8 kV8 dc8 pm8 cd8 ct8 oc9 kV9 dc9 pm9 cd9 ct9 oc10 kV10 dc10 pm10 cd10 ct10 oc11 kV11 dc11 pm11 cd11 ct11 oc12 kV12 dc12 pm12 cd12 ct12 oc13 kV13 dc13 pm13 cd13 ct13 oc14 kV14 dc14 pm14 cd14 ct14 oc15 kV15 dc15 pm15 cd15 ct15 oc16 kV16 dc16 pm16 cd16 ct16 oc17 kV17 dc17 pm17 cd17 ct17 oc18 kV18 dc18 pm18 cd18 ct18 oc19 kV19 dc19 pm19 cd19 ct19 oc20 kV20 dc20 pm20 cd20 ct20 oc21 kV21 dc21 pm21 cd21 ct21 oc22 kV22 dc22 pm22 cd22 ct22 ocI kVI dcI pmI cdI ctI ocG kVG dcG pmG cdG ctG ocT : Value} {itsT : Array Value} {nT : Nat}
    (e0 : PySem.W.nsIn K mainGlobals "InvalidEdges" = some (some (.ref C0)))
    (e1 : PySem.W.nsIn K mainGlobals "TooLarge" = some (some (.ref C1)))
    (e2 : PySem.W.nsIn K mainGlobals "NevercrossedError" = some (some (.ref C2)))
    (e3 : PySem.W.nsIn K mainGlobals "Figure" = some (some (.ref C3)))
    (e4 : PySem.W.nsIn K mainGlobals "Held" = some (some (.ref C4)))
    (e5 : PySem.W.nsIn K mainGlobals "InvalidWalks" = some (some (.ref C5)))
    (e6 : PySem.W.nsIn K mainGlobals "InvalidWalk" = some (some (.ref C6)))
    (aI : PySem.W.findIn K (.ref C2) "__init__" = some (some (.ref fI))) (lI : K.lookup fI = some ⟨ocI, odI, .func (PySem.W.fnOf "__init__" "NevercrossedError.__init__" (defArgs (inClass (top 2) 0)) (defBody (inClass (top 2) 0)) (defScope (inClass (top 2) 0)) .none kVI dcI pmI anI cdI ctI), slI⟩) (cI : PySem.W.codeIn K cdI "NevercrossedError.__init__" = true) (kI : PySem.W.keepIn K (.ref fI) = true)
    (aG : PySem.W.findIn K (.ref C3) "__init__" = some (some (.ref fG))) (lG : K.lookup fG = some ⟨ocG, odG, .func (PySem.W.fnOf "__init__" "Figure.__init__" (defArgs (inClass (top 24) 0)) (defBody (inClass (top 24) 0)) (defScope (inClass (top 24) 0)) (.ref dT) kVG dcG pmG anG cdG ctG), slG⟩) (cG : PySem.W.codeIn K cdG "Figure.__init__" = true) (kG : PySem.W.keepIn K (.ref fG) = true)
    (lT : K.lookup dT = some ⟨ocT, odT, .seq itsT nT, slT⟩) (bT : oneB itsT = true) (bE : emptyB K (firstR itsT) = true)
    (eW : PySem.W.nsIn K mainGlobals "WAYS" = some (some (.ref aW))) (bW : wayTab K aW = true)
    (a0 : PySem.W.nsIn K mainGlobals "is_integer" = some (some (.ref f0))) (l0 : K.lookup f0 = some ⟨oc0, od0, .func (PySem.W.fnOf "is_integer" "is_integer" (defArgs (top 14)) (defBody (top 14)) (defScope (top 14)) .none kV0 dc0 pm0 an0 cd0 ct0), sl0⟩) (c0 : PySem.W.codeIn K cd0 "is_integer" = true) (k0 : PySem.W.keepIn K (.ref f0) = true)
    (a1 : PySem.W.nsIn K mainGlobals "is_point" = some (some (.ref f1))) (l1 : K.lookup f1 = some ⟨oc1, od1, .func (PySem.W.fnOf "is_point" "is_point" (defArgs (top 15)) (defBody (top 15)) (defScope (top 15)) .none kV1 dc1 pm1 an1 cd1 ct1), sl1⟩) (c1 : PySem.W.codeIn K cd1 "is_point" = true) (k1 : PySem.W.keepIn K (.ref f1) = true)
    (a2 : PySem.W.nsIn K mainGlobals "edge_number" = some (some (.ref f2))) (l2 : K.lookup f2 = some ⟨oc2, od2, .func (PySem.W.fnOf "edge_number" "edge_number" (defArgs (top 16)) (defBody (top 16)) (defScope (top 16)) .none kV2 dc2 pm2 an2 cd2 ct2), sl2⟩) (c2 : PySem.W.codeIn K cd2 "edge_number" = true) (k2 : PySem.W.keepIn K (.ref f2) = true)
    (a3 : PySem.W.nsIn K mainGlobals "is_walk" = some (some (.ref f3))) (l3 : K.lookup f3 = some ⟨oc3, od3, .func (PySem.W.fnOf "is_walk" "is_walk" (defArgs (top 17)) (defBody (top 17)) (defScope (top 17)) .none kV3 dc3 pm3 an3 cd3 ct3), sl3⟩) (c3 : PySem.W.codeIn K cd3 "is_walk" = true) (k3 : PySem.W.keepIn K (.ref f3) = true)
    (a4 : PySem.W.nsIn K mainGlobals "step_number" = some (some (.ref f4))) (l4 : K.lookup f4 = some ⟨oc4, od4, .func (PySem.W.fnOf "step_number" "step_number" (defArgs (top 18)) (defBody (top 18)) (defScope (top 18)) .none kV4 dc4 pm4 an4 cd4 ct4), sl4⟩) (c4 : PySem.W.codeIn K cd4 "step_number" = true) (k4 : PySem.W.keepIn K (.ref f4) = true)
    (a5 : PySem.W.nsIn K mainGlobals "way_between" = some (some (.ref f5))) (l5 : K.lookup f5 = some ⟨oc5, od5, .func (PySem.W.fnOf "way_between" "way_between" (defArgs (top 19)) (defBody (top 19)) (defScope (top 19)) .none kV5 dc5 pm5 an5 cd5 ct5), sl5⟩) (c5 : PySem.W.codeIn K cd5 "way_between" = true) (k5 : PySem.W.keepIn K (.ref f5) = true)
    (a6 : PySem.W.nsIn K mainGlobals "_has_truth" = some (some (.ref f6))) (l6 : K.lookup f6 = some ⟨oc6, od6, .func (PySem.W.fnOf "_has_truth" "_has_truth" (defArgs (top 20)) (defBody (top 20)) (defScope (top 20)) .none kV6 dc6 pm6 an6 cd6 ct6), sl6⟩) (c6 : PySem.W.codeIn K cd6 "_has_truth" = true) (k6 : PySem.W.keepIn K (.ref f6) = true)
    (a7 : PySem.W.nsIn K mainGlobals "held_by" = some (some (.ref f7))) (l7 : K.lookup f7 = some ⟨oc7, od7, .func (PySem.W.fnOf "held_by" "held_by" (defArgs (top 25)) (defBody (top 25)) (defScope (top 25)) .none kV7 dc7 pm7 an7 cd7 ct7), sl7⟩) (c7 : PySem.W.codeIn K cd7 "held_by" = true) (k7 : PySem.W.keepIn K (.ref f7) = true)
    (a8 : PySem.W.nsIn K mainGlobals "_checked" = some (some (.ref f8))) (l8 : K.lookup f8 = some ⟨oc8, od8, .func (PySem.W.fnOf "_checked" "_checked" (defArgs (top 27)) (defBody (top 27)) (defScope (top 27)) .none kV8 dc8 pm8 an8 cd8 ct8), sl8⟩) (c8 : PySem.W.codeIn K cd8 "_checked" = true) (k8 : PySem.W.keepIn K (.ref f8) = true)
    (a9 : PySem.W.nsIn K mainGlobals "_ascending" = some (some (.ref f9))) (l9 : K.lookup f9 = some ⟨oc9, od9, .func (PySem.W.fnOf "_ascending" "_ascending" (defArgs (top 28)) (defBody (top 28)) (defScope (top 28)) .none kV9 dc9 pm9 an9 cd9 ct9), sl9⟩) (c9 : PySem.W.codeIn K cd9 "_ascending" = true) (k9 : PySem.W.keepIn K (.ref f9) = true)
    (a10 : PySem.W.nsIn K mainGlobals "division_fault" = some (some (.ref f10))) (l10 : K.lookup f10 = some ⟨oc10, od10, .func (PySem.W.fnOf "division_fault" "division_fault" (defArgs (top 33)) (defBody (top 33)) (defScope (top 33)) .none kV10 dc10 pm10 an10 cd10 ct10), sl10⟩) (c10 : PySem.W.codeIn K cd10 "division_fault" = true) (k10 : PySem.W.keepIn K (.ref f10) = true)
    (a11 : PySem.W.nsIn K mainGlobals "_law_cell_at" = some (some (.ref f11))) (l11 : K.lookup f11 = some ⟨oc11, od11, .func (PySem.W.fnOf "_law_cell_at" "_law_cell_at" (defArgs sCell) (defBody sCell) (defScope sCell) .none kV11 dc11 pm11 an11 cd11 ct11), sl11⟩) (c11 : PySem.W.codeIn K cd11 "_law_cell_at" = true) (k11 : PySem.W.keepIn K (.ref f11) = true)
    (a12 : PySem.W.nsIn K mainGlobals "_law_box" = some (some (.ref f12))) (l12 : K.lookup f12 = some ⟨oc12, od12, .func (PySem.W.fnOf "_law_box" "_law_box" (defArgs sBox) (defBody sBox) (defScope sBox) .none kV12 dc12 pm12 an12 cd12 ct12), sl12⟩) (c12 : PySem.W.codeIn K cd12 "_law_box" = true) (k12 : PySem.W.keepIn K (.ref f12) = true)
    (a13 : PySem.W.nsIn K mainGlobals "_law_take" = some (some (.ref f13))) (l13 : K.lookup f13 = some ⟨oc13, od13, .func (PySem.W.fnOf "_law_take" "_law_take" (defArgs sTake) (defBody sTake) (defScope sTake) .none kV13 dc13 pm13 an13 cd13 ct13), sl13⟩) (c13 : PySem.W.codeIn K cd13 "_law_take" = true) (k13 : PySem.W.keepIn K (.ref f13) = true)
    (a14 : PySem.W.nsIn K mainGlobals "_law_edges" = some (some (.ref f14))) (l14 : K.lookup f14 = some ⟨oc14, od14, .func (PySem.W.fnOf "_law_edges" "_law_edges" (defArgs (top 38)) (defBody (top 38)) (defScope (top 38)) .none kV14 dc14 pm14 an14 cd14 ct14), sl14⟩) (c14 : PySem.W.codeIn K cd14 "_law_edges" = true) (k14 : PySem.W.keepIn K (.ref f14) = true)
    (a15 : PySem.W.nsIn K mainGlobals "_law_divided" = some (some (.ref f15))) (l15 : K.lookup f15 = some ⟨oc15, od15, .func (PySem.W.fnOf "_law_divided" "_law_divided" (defArgs (top 39)) (defBody (top 39)) (defScope (top 39)) .none kV15 dc15 pm15 an15 cd15 ct15), sl15⟩) (c15 : PySem.W.codeIn K cd15 "_law_divided" = true) (k15 : PySem.W.keepIn K (.ref f15) = true)
    (a16 : PySem.W.nsIn K mainGlobals "_law_is_walk" = some (some (.ref f16))) (l16 : K.lookup f16 = some ⟨oc16, od16, .func (PySem.W.fnOf "_law_is_walk" "_law_is_walk" (defArgs (top 40)) (defBody (top 40)) (defScope (top 40)) .none kV16 dc16 pm16 an16 cd16 ct16), sl16⟩) (c16 : PySem.W.codeIn K cd16 "_law_is_walk" = true) (k16 : PySem.W.keepIn K (.ref f16) = true)
    (a17 : PySem.W.nsIn K mainGlobals "_law_shown" = some (some (.ref f17))) (l17 : K.lookup f17 = some ⟨oc17, od17, .func (PySem.W.fnOf "_law_shown" "_law_shown" (defArgs (top 41)) (defBody (top 41)) (defScope (top 41)) .none kV17 dc17 pm17 an17 cd17 ct17), sl17⟩) (c17 : PySem.W.codeIn K cd17 "_law_shown" = true) (k17 : PySem.W.keepIn K (.ref f17) = true)
    (a18 : PySem.W.nsIn K mainGlobals "_law_due" = some (some (.ref f18))) (l18 : K.lookup f18 = some ⟨oc18, od18, .func (PySem.W.fnOf "_law_due" "_law_due" (defArgs (top 42)) (defBody (top 42)) (defScope (top 42)) .none kV18 dc18 pm18 an18 cd18 ct18), sl18⟩) (c18 : PySem.W.codeIn K cd18 "_law_due" = true) (k18 : PySem.W.keepIn K (.ref f18) = true)
    (a19 : PySem.W.nsIn K mainGlobals "_law_caught" = some (some (.ref f19))) (l19 : K.lookup f19 = some ⟨oc19, od19, .func (PySem.W.fnOf "_law_caught" "_law_caught" (defArgs (top 43)) (defBody (top 43)) (defScope (top 43)) .none kV19 dc19 pm19 an19 cd19 ct19), sl19⟩) (c19 : PySem.W.codeIn K cd19 "_law_caught" = true) (k19 : PySem.W.keepIn K (.ref f19) = true)
    (a20 : PySem.W.nsIn K mainGlobals "_law_longer" = some (some (.ref f20))) (l20 : K.lookup f20 = some ⟨oc20, od20, .func (PySem.W.fnOf "_law_longer" "_law_longer" (defArgs (top 44)) (defBody (top 44)) (defScope (top 44)) .none kV20 dc20 pm20 an20 cd20 ct20), sl20⟩) (c20 : PySem.W.codeIn K cd20 "_law_longer" = true) (k20 : PySem.W.keepIn K (.ref f20) = true)
    (a21 : PySem.W.nsIn K mainGlobals "_law_spoilt" = some (some (.ref f21))) (l21 : K.lookup f21 = some ⟨oc21, od21, .func (PySem.W.fnOf "_law_spoilt" "_law_spoilt" (defArgs (top 45)) (defBody (top 45)) (defScope (top 45)) .none kV21 dc21 pm21 an21 cd21 ct21), sl21⟩) (c21 : PySem.W.codeIn K cd21 "_law_spoilt" = true) (k21 : PySem.W.keepIn K (.ref f21) = true)
    (a22 : PySem.W.nsIn K mainGlobals "law" = some (some (.ref f22))) (l22 : K.lookup f22 = some ⟨oc22, od22, .func (PySem.W.fnOf "law" "law" (defArgs (top 46)) (defBody (top 46)) (defScope (top 46)) .none kV22 dc22 pm22 an22 cd22 ct22), sl22⟩) (c22 : PySem.W.codeIn K cd22 "law" = true) (k22 : PySem.W.keepIn K (.ref f22) = true)
    (z_isinstance : PySem.W.nsIn K mainGlobals "isinstance" = some none)
    (z_int : PySem.W.nsIn K mainGlobals "int" = some none)
    (z_bool : PySem.W.nsIn K mainGlobals "bool" = some none)
    (z_tuple : PySem.W.nsIn K mainGlobals "tuple" = some none)
    (z_str : PySem.W.nsIn K mainGlobals "str" = some none)
    (z_len : PySem.W.nsIn K mainGlobals "len" = some none)
    (z_min : PySem.W.nsIn K mainGlobals "min" = some none)
    (z_max : PySem.W.nsIn K mainGlobals "max" = some none)
    (z_range : PySem.W.nsIn K mainGlobals "range" = some none)
    (z_abs : PySem.W.nsIn K mainGlobals "abs" = some none)
    (z_list : PySem.W.nsIn K mainGlobals "list" = some none)
    (z_sorted : PySem.W.nsIn K mainGlobals "sorted" = some none)
    (z_zip : PySem.W.nsIn K mainGlobals "zip" = some none)
    (z_all : PySem.W.nsIn K mainGlobals "all" = some none)
    (z_enumerate : PySem.W.nsIn K mainGlobals "enumerate" = some none)
    (z_repr : PySem.W.nsIn K mainGlobals "repr" = some none)
    (tL : intK (PySem.W.nsIn K mainGlobals "LAST") 30 = true) (tS : intK (PySem.W.nsIn K mainGlobals "SIDE") 31 = true) (tM : intK (PySem.W.nsIn K mainGlobals "MOST_EDGES") 400 = true)
    (tb : tabB K fI [C0, C1, C5, C6] = true) (tf : figB K C3 C4 = true) (mfG : mkB K fG = true) (tx : exB K C5 C6 = true) :
    ∃ fd : FuncData, (∀ (s : Shared) (v : Value), BindsTo s fd ⟨[v], []⟩ [("_law_script", v)]) ∧ ∀ base : Heap, K.In base → base.Ns mainGlobals mg → FnG P w K mg base 9 fa fd ["_law_script"] (spLaw K) := by
  have e := hfa.symm.trans (PySem.W.mg_of X G a22)
  cases e
  have m_isinstance := PySem.W.mg_none_of X G z_isinstance
  have m_int := PySem.W.mg_none_of X G z_int
  have m_bool := PySem.W.mg_none_of X G z_bool
  have m_tuple := PySem.W.mg_none_of X G z_tuple
  have m_str := PySem.W.mg_none_of X G z_str
  have m_len := PySem.W.mg_none_of X G z_len
  have m_min := PySem.W.mg_none_of X G z_min
  have m_max := PySem.W.mg_none_of X G z_max
  have m_range := PySem.W.mg_none_of X G z_range
  have m_abs := PySem.W.mg_none_of X G z_abs
  have m_list := PySem.W.mg_none_of X G z_list
  have m_sorted := PySem.W.mg_none_of X G z_sorted
  have m_zip := PySem.W.mg_none_of X G z_zip
  have m_all := PySem.W.mg_none_of X G z_all
  have m_enumerate := PySem.W.mg_none_of X G z_enumerate
  have m_repr := PySem.W.mg_none_of X G z_repr
  unfold tabB at tb
  simp only [Bool.and_eq_true, beq_iff_eq, List.all_cons, List.all_nil, and_true] at tb
  obtain ⟨tb1, q0, q1, q5, q6⟩ := tb
  have Xe : Tie K mg C0 fI := ⟨class_of q0 tb1, PySem.W.mg_of X G e0⟩
  have Xl : Ttl K mg C1 fI := ⟨class_of q1 tb1, PySem.W.mg_of X G e1⟩
  have XL : TieN K mg "InvalidWalks" C5 fI := ⟨class_of q5 tb1, PySem.W.mg_of X G e5⟩
  have XW : TieN K mg "InvalidWalk" C6 fI := ⟨class_of q6 tb1, PySem.W.mg_of X G e6⟩
  unfold exB at tx
  simp only [Bool.and_eq_true, beq_iff_eq] at tx
  have EX : Tex K mg C5 C6 C2 := ⟨tx.1, tx.2.1, tx.2.2, PySem.W.mg_of X G e2⟩
  have WY : Ways K mg aW := ⟨PySem.W.mg_of X G eW, bW⟩
  obtain ⟨t30, hL⟩ := intK_of tL
  obtain ⟨t31, hS⟩ := intK_of tS
  obtain ⟨t400, hM⟩ := intK_of tM
  unfold figB noB at tf
  simp only [Bool.and_eq_true, beq_iff_eq, List.all_eq_true] at tf
  obtain ⟨g1, g2, g3, g4, g5, g6, g7, g8, g9, g10, g11, g12, g13, g14, g15, g16, g17, g18, g19⟩ := tf
  have Zf : Kf K mg C3 C4 := ⟨PySem.W.mg_of X G e3, PySem.W.mg_of X G e4, ⟨t400, PySem.W.mg_of X G hM⟩, clsB_of g1, clsB_of g2, g3, g4, g5, g6, g7, g8, g9, g10, g11, g12, g13, g14, g15, g16, g17⟩
  have Mf : Mk K C3 fG := ⟨g18, aG, mfG, g19⟩
  have T0 : Txt0 mg := ⟨m_len, m_max⟩
  have Tt : Ta mg := ⟨m_isinstance, m_int, m_bool, m_tuple, m_str, m_len, t30, PySem.W.mg_of X G hL⟩
  have Bb : Bi mg := ⟨m_range, m_tuple, m_len, m_abs, m_list⟩
  have Ts : Tas mg := ⟨m_sorted, m_list⟩
  have Tw : Twk mg := ⟨m_all⟩
  have TZ : Tz mg := ⟨m_zip⟩
  have TS : Tst mg := ⟨⟨t31, PySem.W.mg_of X G hS⟩, m_min, m_abs⟩
  have TE : Ten mg := ⟨m_enumerate⟩
  have TA : Tab mg := ⟨m_abs⟩
  have TP : Trp mg := ⟨m_repr⟩
  have TR : Trg mg := ⟨m_range⟩
  have TT : Tsr mg := ⟨m_sorted⟩
  have TM : Tmm mg := ⟨m_min, m_max⟩
  have KE := emptyB_of bE
  have he := oneB_of bT
  generalize firstR itsT = eT at he KE
  have FI := fun_mk (st := inClass (top 2) 0) lI cI kI
  have bI := FI.binds (ps := ["self", "value"]) fun _ _ _ _ _ _ us hl => match us, hl with | [_, _], _ => rfl
  have FG : FunD K "__init__" "Figure.__init__" (defArgs (inClass (top 24) 0)) (defBody (inClass (top 24) 0)) (defScope (inClass (top 24) 0)) [.ref eT] [] fG _ := ⟨⟨ocG, odG, .ref dT, kVG, dcG, pmG, anG, cdG, ctG, slG, rfl, lG, cG, .inr ⟨by simp, dT, _, [Value.ref eT], nT, rfl, lT, by rw [he], .cons rfl .nil⟩, .inl rfl⟩, kG⟩
  have bF := bind_fig FG rfl
  obtain ⟨ds0, v0, b0d⟩ := FG.binds1 (ps := ["self", "edges"]) 1 0 (by simp) rfl (fun T kV doc pm an cdv ct us its hu hi => match us, its, hu, hi with | [_], [_], _, _ => ⟨_, rfl, rfl⟩)
  have F0 := fun_mk (st := (top 14)) l0 c0 k0
  have b0 := F0.binds (ps := ["value"]) fun _ _ _ _ _ _ us hl => match us, hl with | [_], _ => rfl
  have A0 : At K mg "is_integer" f0 _ ["value"] := ⟨PySem.W.mg_of X G a0, k0, b0⟩
  have F1 := fun_mk (st := (top 15)) l1 c1 k1
  have b1 := F1.binds (ps := ["value"]) fun _ _ _ _ _ _ us hl => match us, hl with | [_], _ => rfl
  have A1 : At K mg "is_point" f1 _ ["value"] := ⟨PySem.W.mg_of X G a1, k1, b1⟩
  have F2 := fun_mk (st := (top 16)) l2 c2 k2
  have b2 := F2.binds (ps := ["value"]) fun _ _ _ _ _ _ us hl => match us, hl with | [_], _ => rfl
  have A2 : At K mg "edge_number" f2 _ ["value"] := ⟨PySem.W.mg_of X G a2, k2, b2⟩
  have F3 := fun_mk (st := (top 17)) l3 c3 k3
  have b3 := F3.binds (ps := ["value"]) fun _ _ _ _ _ _ us hl => match us, hl with | [_], _ => rfl
  have A3 : At K mg "is_walk" f3 _ ["value"] := ⟨PySem.W.mg_of X G a3, k3, b3⟩
  have F4 := fun_mk (st := (top 18)) l4 c4 k4
  have b4 := F4.binds (ps := ["point", "other"]) fun _ _ _ _ _ _ us hl => match us, hl with | [_, _], _ => rfl
  have A4 : At K mg "step_number" f4 _ ["point", "other"] := ⟨PySem.W.mg_of X G a4, k4, b4⟩
  have F5 := fun_mk (st := (top 19)) l5 c5 k5
  have b5 := F5.binds (ps := ["point", "other"]) fun _ _ _ _ _ _ us hl => match us, hl with | [_, _], _ => rfl
  have A5 : At K mg "way_between" f5 _ ["point", "other"] := ⟨PySem.W.mg_of X G a5, k5, b5⟩
  have F6 := fun_mk (st := (top 20)) l6 c6 k6
  have b6 := F6.binds (ps := ["x", "y"]) fun _ _ _ _ _ _ us hl => match us, hl with | [_, _], _ => rfl
  have A6 : At K mg "_has_truth" f6 _ ["x", "y"] := ⟨PySem.W.mg_of X G a6, k6, b6⟩
  have F7 := fun_mk (st := (top 25)) l7 c7 k7
  have b7 := F7.binds (ps := ["figure"]) fun _ _ _ _ _ _ us hl => match us, hl with | [_], _ => rfl
  have A7 : At K mg "held_by" f7 _ ["figure"] := ⟨PySem.W.mg_of X G a7, k7, b7⟩
  have F8 := fun_mk (st := (top 27)) l8 c8 k8
  have b8 := F8.binds (ps := ["edges"]) fun _ _ _ _ _ _ us hl => match us, hl with | [_], _ => rfl
  have A8 : At K mg "_checked" f8 _ ["edges"] := ⟨PySem.W.mg_of X G a8, k8, b8⟩
  have F9 := fun_mk (st := (top 28)) l9 c9 k9
  have b9 := F9.binds (ps := ["held"]) fun _ _ _ _ _ _ us hl => match us, hl with | [_], _ => rfl
  have A9 : At K mg "_ascending" f9 _ ["held"] := ⟨PySem.W.mg_of X G a9, k9, b9⟩
  have F10 := fun_mk (st := (top 33)) l10 c10 k10
  have b10 := F10.binds (ps := ["figure", "walks"]) fun _ _ _ _ _ _ us hl => match us, hl with | [_, _], _ => rfl
  have A10 : At K mg "division_fault" f10 _ ["figure", "walks"] := ⟨PySem.W.mg_of X G a10, k10, b10⟩
  have F11 := fun_mk (st := sCell) l11 c11 k11
  have b11 := F11.binds (ps := ["_law_script", "_law_k"]) fun _ _ _ _ _ _ us hl => match us, hl with | [_, _], _ => rfl
  have A11 : At K mg "_law_cell_at" f11 _ ["_law_script", "_law_k"] := ⟨PySem.W.mg_of X G a11, k11, b11⟩
  have F12 := fun_mk (st := sBox) l12 c12 k12
  have b12 := F12.binds (ps := ["_law_number"]) fun _ _ _ _ _ _ us hl => match us, hl with | [_], _ => rfl
  have A12 : At K mg "_law_box" f12 _ ["_law_number"] := ⟨PySem.W.mg_of X G a12, k12, b12⟩
  have F13 := fun_mk (st := sTake) l13 c13 k13
  have b13 := F13.binds (ps := ["_law_box_here", "_law_many"]) fun _ _ _ _ _ _ us hl => match us, hl with | [_, _], _ => rfl
  have A13 : At K mg "_law_take" f13 _ ["_law_box_here", "_law_many"] := ⟨PySem.W.mg_of X G a13, k13, b13⟩
  have AV13 : AtV K mg "_law_take" f13 _ ["_law_box_here", "_law_many"] := ⟨PySem.W.mg_of X G a13, k13, b13⟩
  have F14 := fun_mk (st := (top 38)) l14 c14 k14
  have b14 := F14.binds (ps := ["_law_box_here", "_law_most"]) fun _ _ _ _ _ _ us hl => match us, hl with | [_, _], _ => rfl
  have A14 : At K mg "_law_edges" f14 _ ["_law_box_here", "_law_most"] := ⟨PySem.W.mg_of X G a14, k14, b14⟩
  have F15 := fun_mk (st := (top 39)) l15 c15 k15
  have b15 := F15.binds (ps := ["_law_box_here", "_law_edges_here"]) fun _ _ _ _ _ _ us hl => match us, hl with | [_, _], _ => rfl
  have A15 : At K mg "_law_divided" f15 _ ["_law_box_here", "_law_edges_here"] := ⟨PySem.W.mg_of X G a15, k15, b15⟩
  have F16 := fun_mk (st := (top 40)) l16 c16 k16
  have b16 := F16.binds (ps := ["_law_value"]) fun _ _ _ _ _ _ us hl => match us, hl with | [_], _ => rfl
  have A16 : At K mg "_law_is_walk" f16 _ ["_law_value"] := ⟨PySem.W.mg_of X G a16, k16, b16⟩
  have F17 := fun_mk (st := (top 41)) l17 c17 k17
  have b17 := F17.binds (ps := ["_law_value"]) fun _ _ _ _ _ _ us hl => match us, hl with | [_], _ => rfl
  have A17 : At K mg "_law_shown" f17 _ ["_law_value"] := ⟨PySem.W.mg_of X G a17, k17, b17⟩
  have F18 := fun_mk (st := (top 42)) l18 c18 k18
  have b18 := F18.binds (ps := ["_law_edges_here", "_law_walks"]) fun _ _ _ _ _ _ us hl => match us, hl with | [_, _], _ => rfl
  have A18 : At K mg "_law_due" f18 _ ["_law_edges_here", "_law_walks"] := ⟨PySem.W.mg_of X G a18, k18, b18⟩
  have F19 := fun_mk (st := (top 43)) l19 c19 k19
  have b19 := F19.binds (ps := ["_law_figure", "_law_walks"]) fun _ _ _ _ _ _ us hl => match us, hl with | [_, _], _ => rfl
  have A19 : At K mg "_law_caught" f19 _ ["_law_figure", "_law_walks"] := ⟨PySem.W.mg_of X G a19, k19, b19⟩
  have F20 := fun_mk (st := (top 44)) l20 c20 k20
  have b20 := F20.binds (ps := ["_law_box_here", "_law_walk"]) fun _ _ _ _ _ _ us hl => match us, hl with | [_, _], _ => rfl
  have A20 : At K mg "_law_longer" f20 _ ["_law_box_here", "_law_walk"] := ⟨PySem.W.mg_of X G a20, k20, b20⟩
  have F21 := fun_mk (st := (top 45)) l21 c21 k21
  have b21 := F21.binds (ps := ["_law_box_here", "_law_some", "_law_walks", "_law_odd"]) fun _ _ _ _ _ _ us hl => match us, hl with | [_, _, _, _], _ => rfl
  have A21 : At K mg "_law_spoilt" f21 _ ["_law_box_here", "_law_some", "_law_walks", "_law_odd"] := ⟨PySem.W.mg_of X G a21, k21, b21⟩
  have F22 := fun_mk (st := (top 46)) l22 c22 k22
  refine ⟨PySem.W.fnOf "law" "law" (defArgs (top 46)) (defBody (top 46)) (defScope (top 46)) .none kV22 dc22 pm22 an22 cd22 ct22, fun s v => .of_eq rfl, fun base _ _ => ?_⟩
  have Gini := ok_ini (P := P) (w := w) (mg := mg) (base := base) FI
  have Gii := ok_isint (P := P) (w := w) (base := base) F0 Tt
  have Gip := ok_ispoint F1 Tt Gii A0
  have Gtr := ok_truth (P := P) (w := w) (mg := mg) (base := base) F6
  have Gen := ok_enum F2 Tt ⟨t31, PySem.W.mg_of X G hS⟩ Gtr A6
  have Gas := ok_asc (P := P) (w := w) (base := base) F9 Ts
  have Gck := ok_chk F8 Tt m_list Xe Gini bI Gen A2 Gas A9
  have Gfi := ok_fig FG Tt Xe Xl Zf Gini bI Gck A8
  have Gck0 := ok_chk0 F8 Tt m_list Xe Gini bI Gen A2 Gas A9
  have Gfi0 := ok_fig0 FG Tt Xe Xl Zf Gini bI Gck0 A8
  have Gwy := ok_way (P := P) (w := w) (base := base) F5 WY
  have Giw := ok_iswalk F3 Tt Tw TZ Gip A1 Gwy A5
  have Gsn := ok_sn (P := P) (w := w) (base := base) F4 TS
  have Ghb := ok_hb (P := P) (w := w) (base := base) F7 Zf
  have Gdf := ok_df F10 Tt m_list TE TZ XL XW Gini bI Giw A3 Ghb A7 Gsn A4
  have Gtk := ok_take (P := P) (w := w) (mg := mg) (base := base) F13
  have Gtk2 := fn_weak Gtk take_weak
  have Ged := fn_weak (ok_edgesD F14 Bb Gtk2 AV13) edges_weak
  have Gdv := ok_dv F15 Tt m_list Gtk A13
  have Glw := ok_lw (P := P) (w := w) (base := base) F16 Tt TA TZ
  have Gsh := ok_shn (P := P) (w := w) (base := base) F17 Tt TP Zf
  have Gdu := ok_due F18 Tt m_list TP TR TT TZ Gsh A17 Glw A16
  have Gca := ok_cau F19 TP XL XW EX Gdf A10 Gsh A17
  have Glo := ok_lon F20 Tt TM Gtk A13
  have Gsp := ok_spo F21 Tt Gtk A13 Glw A16 Glo A20
  exact ok_law (fun _ _ _ _ h => h) F22 Tt m_list TR TM TP Zf (ok_cell F11 T0) A11 (ok_box F12 T0) A12 Gtk A13 Ged A14 Gdv A15 Gdu A18 Gca A19 Gsp A21 Mf Gfi bF Gfi0 KE v0 b0d
end Y1
open PySem PySem.W PyProof.Rows
set_option Elab.async false
set_option maxRecDepth 100000 in
set_option maxHeartbeats 0 in
theorem PySem.Challenge.cw_nevercrossed_k19_faults_of_divisions_holds : PySem.Challenge.rw_nevercrossed_k19_faults_of_divisions.Holds := by
  w_on; o_law; k_head; (case hw => w_witness2)
  k_fill
  refine Nv.walkG (l := PySem.Challenge.rw_nevercrossed_k19_faults_of_divisions) (n := 63) (k := 9) (x := "_law_script") (sp := Y1.spLaw) rfl (by decide) rfl ⟨rfl, by decide, by decide⟩ (fun w h Y => PySem.W.kIn_of Y) ?F (fun K H a ns hl hS => ⟨a, ns, rfl, hS, hl, fun _ => rfl⟩)
  case F =>
    intro w mg fa h KX G hmg
    refine' Y1.all_mk KX G hmg ?h_e0 ?h_e1 ?h_e2 ?h_e3 ?h_e4 ?h_e5 ?h_e6 ?h_aI ?h_lI ?h_cI ?h_kI ?h_aG ?h_lG ?h_cG ?h_kG ?h_lT ?h_bT ?h_bE ?h_eW ?h_bW ?h_a0 ?h_l0 ?h_c0 ?h_k0 ?h_a1 ?h_l1 ?h_c1 ?h_k1 ?h_a2 ?h_l2 ?h_c2 ?h_k2 ?h_a3 ?h_l3 ?h_c3 ?h_k3 ?h_a4 ?h_l4 ?h_c4 ?h_k4 ?h_a5 ?h_l5 ?h_c5 ?h_k5 ?h_a6 ?h_l6 ?h_c6 ?h_k6 ?h_a7 ?h_l7 ?h_c7 ?h_k7 ?h_a8 ?h_l8 ?h_c8 ?h_k8 ?h_a9 ?h_l9 ?h_c9 ?h_k9 ?h_a10 ?h_l10 ?h_c10 ?h_k10 ?h_a11 ?h_l11 ?h_c11 ?h_k11 ?h_a12 ?h_l12 ?h_c12 ?h_k12 ?h_a13 ?h_l13 ?h_c13 ?h_k13 ?h_a14 ?h_l14 ?h_c14 ?h_k14 ?h_a15 ?h_l15 ?h_c15 ?h_k15 ?h_a16 ?h_l16 ?h_c16 ?h_k16 ?h_a17 ?h_l17 ?h_c17 ?h_k17 ?h_a18 ?h_l18 ?h_c18 ?h_k18 ?h_a19 ?h_l19 ?h_c19 ?h_k19 ?h_a20 ?h_l20 ?h_c20 ?h_k20 ?h_a21 ?h_l21 ?h_c21 ?h_k21 ?h_a22 ?h_l22 ?h_c22 ?h_k22 ?h_z_isinstance ?h_z_int ?h_z_bool ?h_z_tuple ?h_z_str ?h_z_len ?h_z_min ?h_z_max ?h_z_range ?h_z_abs ?h_z_list ?h_z_sorted ?h_z_zip ?h_z_all ?h_z_enumerate ?h_z_repr ?h_tL ?h_tS ?h_tM ?h_tb ?h_tf ?h_mfG ?h_tx
    (case h_e0 => k_is)
    (case h_e1 => k_is)
    (case h_e2 => k_is)
    (case h_e3 => k_is)
    (case h_e4 => k_is)
    (case h_e5 => k_is)
    (case h_e6 => k_is)
    (case h_aI => k_is)
    (case h_lI => k_is)
    (case h_cI => k_is)
    (case h_kI => k_is)
    (case h_aG => k_is)
    (case h_lG => k_is)
    (case h_cG => k_is)
    (case h_kG => k_is)
    (case h_lT => k_is)
    (case h_bT => kernel_rfl)
    (case h_bE => kernel_rfl)
    (case h_eW => k_is)
    (case h_bW => kernel_rfl)
    (case h_a0 => k_is)
    (case h_l0 => k_is)
    (case h_c0 => k_is)
    (case h_k0 => k_is)
    (case h_a1 => k_is)
    (case h_l1 => k_is)
    (case h_c1 => k_is)
    (case h_k1 => k_is)
    (case h_a2 => k_is)
    (case h_l2 => k_is)
    (case h_c2 => k_is)
    (case h_k2 => k_is)
    (case h_a3 => k_is)
    (case h_l3 => k_is)
    (case h_c3 => k_is)
    (case h_k3 => k_is)
    (case h_a4 => k_is)
    (case h_l4 => k_is)
    (case h_c4 => k_is)
    (case h_k4 => k_is)
    (case h_a5 => k_is)
    (case h_l5 => k_is)
    (case h_c5 => k_is)
    (case h_k5 => k_is)
    (case h_a6 => k_is)
    (case h_l6 => k_is)
    (case h_c6 => k_is)
    (case h_k6 => k_is)
    (case h_a7 => k_is)
    (case h_l7 => k_is)
    (case h_c7 => k_is)
    (case h_k7 => k_is)
    (case h_a8 => k_is)
    (case h_l8 => k_is)
    (case h_c8 => k_is)
    (case h_k8 => k_is)
    (case h_a9 => k_is)
    (case h_l9 => k_is)
    (case h_c9 => k_is)
    (case h_k9 => k_is)
    (case h_a10 => k_is)
    (case h_l10 => k_is)
    (case h_c10 => k_is)
    (case h_k10 => k_is)
    (case h_a11 => k_is)
    (case h_l11 => k_is)
    (case h_c11 => k_is)
    (case h_k11 => k_is)
    (case h_a12 => k_is)
    (case h_l12 => k_is)
    (case h_c12 => k_is)
    (case h_k12 => k_is)
    (case h_a13 => k_is)
    (case h_l13 => k_is)
    (case h_c13 => k_is)
    (case h_k13 => k_is)
    (case h_a14 => k_is)
    (case h_l14 => k_is)
    (case h_c14 => k_is)
    (case h_k14 => k_is)
    (case h_a15 => k_is)
    (case h_l15 => k_is)
    (case h_c15 => k_is)
    (case h_k15 => k_is)
    (case h_a16 => k_is)
    (case h_l16 => k_is)
    (case h_c16 => k_is)
    (case h_k16 => k_is)
    (case h_a17 => k_is)
    (case h_l17 => k_is)
    (case h_c17 => k_is)
    (case h_k17 => k_is)
    (case h_a18 => k_is)
    (case h_l18 => k_is)
    (case h_c18 => k_is)
    (case h_k18 => k_is)
    (case h_a19 => k_is)
    (case h_l19 => k_is)
    (case h_c19 => k_is)
    (case h_k19 => k_is)
    (case h_a20 => k_is)
    (case h_l20 => k_is)
    (case h_c20 => k_is)
    (case h_k20 => k_is)
    (case h_a21 => k_is)
    (case h_l21 => k_is)
    (case h_c21 => k_is)
    (case h_k21 => k_is)
    (case h_a22 => k_is)
    (case h_l22 => k_is)
    (case h_c22 => k_is)
    (case h_k22 => k_is)
    (case h_z_isinstance => k_is)
    (case h_z_int => k_is)
    (case h_z_bool => k_is)
    (case h_z_tuple => k_is)
    (case h_z_str => k_is)
    (case h_z_len => k_is)
    (case h_z_min => k_is)
    (case h_z_max => k_is)
    (case h_z_range => k_is)
    (case h_z_abs => k_is)
    (case h_z_list => k_is)
    (case h_z_sorted => k_is)
    (case h_z_zip => k_is)
    (case h_z_all => k_is)
    (case h_z_enumerate => k_is)
    (case h_z_repr => k_is)
    (case h_tL => kernel_rfl)
    (case h_tS => kernel_rfl)
    (case h_tM => kernel_rfl)
    (case h_tb => kernel_rfl)
    (case h_tf => kernel_rfl)
    (case h_mfG => kernel_rfl)
    (case h_tx => kernel_rfl)
#print axioms PySem.Challenge.cw_nevercrossed_k19_faults_of_divisions_holds
