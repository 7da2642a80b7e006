import PyProof.Rows.All
import Wide.All
import OpenK.AllK
import Wide.FinOn
import HandS.ForMost
import HandS.Exc
import HandS.ExcOwn
import PyProof.ReprRoads
import HandS.Codes
import HandS.StrMore
import HandS.Text
import HandS.ExcInit
import HandS.ExcField
import HandS.IsInst
import KE.KExcIs
import KE.KTypeName
import HandS.TryOnly
import HandS.ExcCtx
import HandS.HotCalls
import HandS.Comp
import PyProof.StrLawsRepr
import PyProof.FitsInt
import HandS.Deep
import HandS.Wide
import HandS.WordsExc
import HandS.More
import HandS.HeadHook3
import PyProof.P3In
import HandS.Conv
import HandS.Replace
import HandS.Zip
import HandS.FStr
import HandS.List
import HandS.Dict
import HandS.WordsDict
import HandS.Words
import PyProof.InstEq
import HandS.Style
import PySem.Challenge.RW_nevercrossed_k10_walks_as_texts
set_option Elab.async false
set_option linter.all false
set_option maxRecDepth 100000
set_option maxHeartbeats 4000000
/-! Calls made where no value is being shown (so that repr may be asked), and the end of a law for such defs. -/
namespace Nv
open PySem PySem.Spec PyProof.Rows L2

structure FnG (P : Program) (w : World) (K : PySem.W.Frag) (mg : Str → Option Value) (base : Heap) (k : Nat) (f : Addr) (fd : FuncData) (ps : List Str) (sp : Sp) : Prop where
  many : ∀ vs H Q E, sp vs H Q E → vs.length = ps.length
  does : ∀ (A : Around) (outer : List Env) (s : Shared) (H : Hp) (ar : Args) (us : List Value) (vs : List V) (Q : VK) (E : XK),
    A.guards = some [] → Room k A → Env0 P w K mg base A outer s H → BindsTo s fd ar (ps.zip us) → Vals vs us → sp vs H Q E →
    codeAny (model P w) A (.call (.ref f) ar) (CR CX0 outer P w H s Q E) s

theorem all_kinds {N ps : List Str} {sc : Scope} (S : FnScope N ps sc) (us : List Value) :
    ((ps.zip us).all fun y => sc.names.lookup y.1 == some .local || sc.names.lookup y.1 == some .cell) = true := by
  rw [List.all_eq_true]
  rintro ⟨x, v⟩ hy
  rcases S.par x (List.of_mem_zip hy).1 with q | q <;> simp [q]

section
variable {P : Program} {w : World} {K : PySem.W.Frag} {mg : Str → Option Value} {base : Heap}
theorem FnG.made {x qual : Str} {st : Stmt} {f : Addr} {fd : FuncData} {N ps : List Str} {k : Nat} {sp : Sp} (F : Fun K x qual st f fd) (S : FnScope N ps (defScope st))
    (many : ∀ vs H Q E, sp vs H Q E → vs.length = ps.length)
    (body : ∀ (cdv : Value) (A : Around) (outer : List Env) (s : Shared) (H : Hp) (vs : List V) (Q : VK) (E : XK), A.guards = some [] →
      Room k (A.deeper (envOfC qual (defScope st) s.heap.objs.size f cdv)) → sp vs H Q E →
      ∃ t, PSs (cxOf CX0 P w K mg base N qual (defScope st) f cdv A outer s H E).nox (defBody st) t ∧ t { nx := fun _ H' => Q .non H', rt := Q } (start N vs) H) :
    FnG P w K mg base (k + 1) f fd ps sp := by
  obtain ⟨oc, od, kV, doc, pm, an, cdv, ct, osl, rfl, lk, hcd⟩ := F.ex
  constructor
  · exact many
  intro A outer s H ar us vs Q E gd room env hb rel want
  obtain ⟨t, der, hq⟩ := body cdv A outer s H vs Q E gd (room.deeper _) want
  have inK : K.In s.heap := env.mod.kin.keeps fun b o z => (env.bs b o z).1
  have nolim : s.heap.NoLimit := env.mod.nolimit.keeps fun b o z => (env.bs b o z).1
  refine Att.call_fn inK nolim lk hcd room.depth hb (all_kinds S us) (fun s1 ic => ?_) S.co S.gen S.kind
  have J := inv_start (CX := CX0) (E := E) (N := N) S room.hd env (many _ _ _ _ want) rel ic
  refine wpAny_mono (der.nox.run [] s1 _ H _ J hq) ?_ fun _ _ z => z
  rintro (_ | _ | _ | u) s' z
  · obtain ⟨σ', H', J', q⟩ := z
    exact ⟨.non, H', J'.os, J'.bare, J'.base, J'.hok, rfl, q⟩
  · obtain ⟨_, _, _, q⟩ := z
    exact q.elim
  · obtain ⟨_, _, _, q⟩ := z
    exact q.elim
  · obtain ⟨v, σ', H', J', r, q⟩ := z
    exact ⟨v, H', J'.os, J'.bare, J'.base, J'.hok, r, q⟩
end

section
variable {X : Cx} {k : Nat} {f : Addr} {fd : FuncData} {ps : List Str} {sp : Sp} {x : Str} {p pos : Pos} {e : Expr} {es : List Expr} {t : TA}
/-- x(e, ..), nothing raised -/
theorem pe_callG (F : FnG X.prog X.w X.K X.mg X.base k f fd ps sp) (gd : X.A.guards = some []) (hr : Room k X.A) (hg : Gl X x) (hm : X.mg x = some (.ref f)) (hk : PySem.W.keepIn X.K (.ref f) = true)
    (hb : Binds X.K fd ps []) (ha : PA X (e :: es) t) (hdb : (x == ("__debug__" : Str)) = false := by decide)
    (he : starEach (e :: es) X.env = (false, eval e X.env) :: starEach es X.env := by rfl) (hpl : (backTo pos (starEach es X.env)).any (·.1) = false := by rfl) :
    PE X (.Call (.Name x p) (e :: es) [] pos) (tCall sp [] E0 t) := by
  constructor
  intro pins s σ H Q I h
  refine wpAny_Call_Name_kw (ld_glob I hg hm (PySem.W.callWith_K (h₀ := X.base) I.ok.mod.kin hk (thn (ha.run pos pins s σ H _ I h) ?_) he hpl) hdb)
  rintro us s1 ⟨vs, H1, I1, r, q⟩
  rw [List.append_nil] at q
  have lu : (us ++ ([] : List Value)).length = ps.length := by rw [List.append_nil, ← r.length]; exact F.many _ _ _ _ q
  have b := hb s1 us I1.kIn lu
  rw [List.append_nil] at b
  refine ⟨I1.kIn, wpAny_call (codeAny_mono (F.does X.A X.stack s1 H1 ⟨us, []⟩ us vs Q E0 gd hr I1.env0 b r q) ?_)⟩
  rintro (z | (_ | _ | _ | u)) s2 hz
  · exact hz.elim
  · exact hz.elim
  · exact hz.elim
  · exact hz.elim
  · exact I1.after hz
end
end Nv
set_option Elab.async false
set_option linter.all false
set_option maxRecDepth 100000
set_option maxHeartbeats 4000000
/-! The end of a law whose def shows values. -/
namespace Nv
open PySem PySem.Spec PyProof.Rows L2

section
variable {P : Program} {w : World} {K : PySem.W.Frag} {mg mb : Str → Option Value} {k : Nat} {fa a : Addr} {fd : FuncData} {x : Str} {sp : Sp} {s1 : Shared} {vs : List Value} {ns : List Int}
/-- nothing is tracked, or the script alone -/
structure Alone (s1 : Shared) (a : Addr) (vs : List Value) (ns : List Int) (H : Hp) : Prop where
  one : ∀ b u, H b = some u → b = a ∧ u = .frz { cls := .type "list", data := .seq vs.toArray } (.lst (ns.map V.int))
theorem Alone.dict_free {H : Hp} (z : Alone s1 a vs ns H) (ha : s1.heap.get? a = some { cls := .type "list", data := .seq vs.toArray }) {b : Addr} {o : Obj} {es : Array DictEntry} {ep : Nat} (e : s1.heap.get? b = some o) (d : o.data = .dict es ep) : H b = none := by
  cases q : H b with
  | none => rfl
  | some u =>
    have eb := (z.one b u q).1
    rw [eb, ha] at e
    cases e
    exact nomatch d
theorem Alone.ns_kept {H : Hp} (z : Alone s1 a vs ns H) (ha : s1.heap.get? a = some { cls := .type "list", data := .seq vs.toArray }) {b : Addr} {m : Str → Option Value} : s1.heap.Ns b m → (hidT s1.heap H).Ns b m := by
  rintro ⟨o, es, ep, e, d, r⟩
  exact ⟨o, es, ep, hidT_get e (z.dict_free ha e d), d, r⟩
theorem end_of (KX : K.In s1.heap) (hns : s1.heap.Ns mainGlobals mg) (hb : s1.heap.Ns builtinsNs mb) (hbb : ∀ x : Str, x ≠ "__name__" → mb x = bootBuiltins x) (hlim : s1.heap.NoLimit) (hg : s1.gens = #[])
    (ha : s1.heap.get? a = some { cls := .type "list", data := .seq vs.toArray }) (hr : Room k callerA)
    (F : ∀ base : Heap, K.In base → base.Ns mainGlobals mg → FnG P w K mg base k fa fd [x] sp) (hbind : ∀ (s : Shared) (u : Value), BindsTo s fd ⟨[u], []⟩ [(x, u)])
    {H : Hp} (z : Alone s1 a vs ns H) (nk : ∀ b u, H b = some u → K.lookup b = none) (hok : HOk P w H s1.heap) (want : sp [.ref a] H (fun v _ => v = .bl true) E0) :
    codeAny (model P w) callerA (.call (.ref fa) ⟨[.ref a], []⟩) (fun r s' => r = .ok (.ret (.bool true)) ∧ OldK s1.heap s'.heap ∧ s'.os = s1.os ∧ AllBare s'.gens) s1 := by
  have kb : K.In (hidT s1.heap H) := by
    intro b o e
    refine hidT_get (KX b o e) ?_
    cases q : H b with
    | none => rfl
    | some u =>
      rw [nk b u q] at e
      cases e
  obtain ⟨ml, l1, l2⟩ := hlim
  have md : Mod K mg (hidT s1.heap H) := { kin := kb, glob := z.ns_kept ha hns, blt := ⟨mb, z.ns_kept ha hb, hbb⟩, nolimit := ⟨ml, z.ns_kept ha l1, l2⟩ }
  have env : Env0 P w K mg (hidT s1.heap H) callerA [] s1 H := { frames := rfl, mod := md, bs := fun _ _ e => of_hidT e, bsz := Nat.le_of_eq (hidT_size _ _), funs := trivial, frf := fun b h => (List.not_mem_nil h).elim, hok := hok, bare := .of_eq hg }
  refine codeAny_mono ((F _ kb (z.ns_kept ha hns)).does callerA [] s1 H ⟨[.ref a], []⟩ [.ref a] [.ref a] _ E0 rfl hr env (hbind s1 (.ref a)) (.cons rfl .nil) want) ?_
  rintro (e | (_ | _ | _ | u)) s' h
  · exact h.elim
  · exact h.elim
  · exact h.elim
  · exact h.elim
  obtain ⟨v, H', os, bare, un, hok', rv, q⟩ := h
  subst q
  cases (show u = Value.bool true from rv)
  refine ⟨rfl, OldK.of_keep fun b o e => ?_, os, bare⟩
  cases q : H b with
  | none => exact un.keep b o e q List.not_mem_nil List.not_mem_nil
  | some t =>
    have et := (z.one b t q).2
    subst et
    have e1 := (hok b _ q).1
    rw [e] at e1
    cases e1
    exact (hok' b _ (un.frzs b _ _ q)).1
theorem law_endG (KX : K.In s1.heap) (hns : s1.heap.Ns mainGlobals mg) (hb : s1.heap.Ns builtinsNs mb) (hbb : ∀ x : Str, x ≠ "__name__" → mb x = bootBuiltins x) (hlim : s1.heap.NoLimit) (hg : s1.gens = #[])
    (ha : s1.heap.get? a = some { cls := .type "list", data := .seq vs.toArray }) (hi : IntsAre vs ns) (hl : ns.length ≤ sizeLine) (hr : Room k callerA)
    (F : ∀ base : Heap, K.In base → base.Ns mainGlobals mg → FnG P w K mg base k fa fd [x] sp) (hbind : ∀ (s : Shared) (u : Value), BindsTo s fd ⟨[u], []⟩ [(x, u)])
    (want : ∀ H : Hp, SqL K H a (ns.map V.int) → sp [.ref a] H (fun v _ => v = .bl true) E0) :
    codeAny (model P w) callerA (.call (.ref fa) ⟨[.ref a], []⟩) (fun r s' => r = .ok (.ret (.bool true)) ∧ OldK s1.heap s'.heap ∧ s'.os = s1.os ∧ AllBare s'.gens) s1 := by
  have rv := vals_ints hi
  by_cases hk : ∃ o, K.lookup a = some o
  · obtain ⟨o, hk⟩ := hk
    have eo : o = { cls := .type "list", data := .seq vs.toArray } := by
      have z := KX a o hk
      rw [ha] at z
      exact (Option.some.inj z).symm
    subst eo
    refine end_of (ns := ns) KX hns hb hbb hlim hg ha hr F hbind (H := fun _ => none) ⟨fun _ _ z => nomatch z⟩ (fun _ _ z => nomatch z) (fun _ _ z => nomatch z) (want _ (.inr ?_))
    exact ⟨_, vs.toArray, _, hk, rfl, rfl, rfl, by rw [List.size_toArray, hi.length]; exact hl, by simpa using rv⟩
  · have nk : K.lookup a = none := by
      cases q : K.lookup a with
      | none => rfl
      | some o => exact (hk ⟨o, q⟩).elim
    let H : Hp := fun b => if b = a then some (.frz { cls := .type "list", data := .seq vs.toArray } (.lst (ns.map V.int))) else none
    have at_a : H a = some (.frz { cls := .type "list", data := .seq vs.toArray } (.lst (ns.map V.int))) := if_pos rfl
    have al : Alone s1 a vs ns H := ⟨fun b u q => by
      by_cases eb : b = a
      · subst eb
        rw [at_a] at q
        exact ⟨rfl, (Option.some.inj q).symm⟩
      · rw [show H b = none from if_neg eb] at q
        cases q⟩
    refine end_of KX hns hb hbb hlim hg ha hr F hbind al (fun b u q => by rw [(al.one b u q).1]; exact nk) (fun b u q => ?_) (want H (.inl (.inr ⟨_, at_a⟩)))
    obtain ⟨rfl, rfl⟩ := al.one b u q
    exact ⟨ha, by rw [List.length_map]; exact hl, vs, _, rv, ha⟩
end

/-- the goal that the head leaves -/
theorem walkG {l : PySem.W.OpenLaw} {n k : Nat} {q : Program} {loose : List Str} {XP : (Str → Option Value) → Heap → Prop} {YP : World → Heap → Prop} {d : DefRec} {K : Params → PySem.W.Frag} {sp : PySem.W.Frag → Sp} {x : Str}
    (hn : l.most = some n) (hn2 : n ≤ sizeLine) (hdf : d.params.defaults = []) (hr : Room k callerA) (hY : ∀ (w : World) (h : Heap), YP w h → (K w.params).In h)
    (F : ∀ (w : World) (mg : Str → Option Value) (fa : Addr) (h : Heap), (K w.params).In h → h.Ns mainGlobals mg → mg d.name = some (.ref fa) →
      ∃ fd : FuncData, (∀ (s : Shared) (u : Value), BindsTo s fd ⟨[u], []⟩ [(x, u)]) ∧
        ∀ base : Heap, (K w.params).In base → base.Ns mainGlobals mg → FnG l.prog w (K w.params) mg base k fa fd [x] (sp (K w.params)))
    (want : ∀ (K : PySem.W.Frag) (H : Hp) (a : Addr) (ns : List Int), ns.length ≤ n → SqL K H a (ns.map V.int) → sp K [.ref a] H (fun v _ => v = .bl true) E0) :
    PySem.W.WalkO q loose XP YP l.row.toRowW d [] (fun f vs => PySem.call f vs) := by
  refine Att.attach_call hn hdf ?_
  intro w s₀ s₁ mg mb fa o pm cd doc a vs ns G Y _ _ _ hmg hobj hints hlen hg
  obtain ⟨fd, hb, hF⟩ := F w mg fa _ (hY w _ Y) G.T.g hmg
  exact law_endG (hY w _ Y) G.T.g G.T.b G.T.builtins G.T.nolimit hg hobj hints (Nat.le_trans hlen hn2) hr hF hb (fun H hS => want _ H a ns hlen hS)
end Nv
set_option Elab.async false
set_option linter.all false
set_option maxRecDepth 100000
set_option maxHeartbeats 4000000
/-! Data of any depth over the abstract heap; repr of them. -/
namespace Nv
open PySem PySem.Spec PyProof.Rows L2

mutual
/-- v is the datum d -/
inductive DV (H : Hp) : V → PyData → Prop
  | non : DV H .non .none
  | bl (b : Bool) : DV H (.bl b) (.bool b)
  | int (i : Int) : DV H (.int i) (.int i)
  | str (x : Str) : DV H (.str x) (.str x)
  | lst {a : Addr} {xs : List V} {ds : List PyData} (h : H a = some (.lst xs)) (r : DVs H xs ds) : DV H (.ref a) (.list ds)
  | tup {a : Addr} {xs : List V} {ds : List PyData} (h : H a = some (.tup xs)) (r : DVs H xs ds) : DV H (.ref a) (.tuple ds)
  | emp {a : Addr} (h : H a = some (.dK [])) : DV H (.ref a) (.dict [])
inductive DVs (H : Hp) : List V → List PyData → Prop
  | nil : DVs H [] []
  | cons {x : V} {xs : List V} {d : PyData} {ds : List PyData} (h : DV H x d) (r : DVs H xs ds) : DVs H (x :: xs) (d :: ds)
end

mutual
theorem DV.more {H H' : Hp} (k : Same H H') : ∀ {v : V} {d : PyData}, DV H v d → DV H' v d
  | _, _, .non => .non
  | _, _, .bl b => .bl b
  | _, _, .int i => .int i
  | _, _, .str x => .str x
  | _, _, .lst h r => .lst (k _ _ h) (r.more k)
  | _, _, .tup h r => .tup (k _ _ h) (r.more k)
  | _, _, .emp h => .emp (k _ _ h)
theorem DVs.more {H H' : Hp} (k : Same H H') : ∀ {vs : List V} {ds : List PyData}, DVs H vs ds → DVs H' vs ds
  | _, _, .nil => .nil
  | _, _, .cons h r => .cons (h.more k) (r.more k)
end

theorem DVs.length {H : Hp} : ∀ {vs : List V} {ds : List PyData}, DVs H vs ds → vs.length = ds.length
  | _, _, .nil => rfl
  | _, _, .cons _ r => by rw [List.length_cons, List.length_cons, r.length]
theorem DVs.at {H : Hp} : ∀ {vs : List V} {ds : List PyData}, DVs H vs ds → ∀ (i : Nat) (v : V), vs[i]? = some v → ∃ d, ds[i]? = some d ∧ DV H v d
  | _, _, .cons h r, 0, v, e => ⟨_, rfl, by cases e; exact h⟩
  | _, _, .cons h r, i + 1, v, e => r.at i v (by simpa using e)

theorem emp_reads {P : Program} {w : World} {H : Hp} {h : Heap} {a : Addr} {u : Value} (ok : HOk P w H h) (h1 : H a = some (.dK [])) (r : RelV (.ref a) u) : Reads h u (.dict []) [a] ∧ sysModules ∉ [a] := by
  obtain ⟨_, ns, vs, kv, o, es, ep, e, hx, hd, _, hp, _⟩ := ok a _ h1
  cases kv
  have ez : es.toList = [] := List.length_eq_zero_iff.mp hp.length
  rw [show u = Value.ref a from r]
  refine ⟨.dict (kvs := []) (as := []) (bs := []) e hx.1 hd (by rw [ez]; exact .nil) (by rw [ez]; exact .nil), fun z => ?_⟩
  rw [List.mem_singleton] at z
  rw [← z] at ns
  simp at ns

mutual
theorem DV.reads {P : Program} {w : World} {H : Hp} {h : Heap} (ok : HOk P w H h) : ∀ {v : V} {d : PyData} {u : Value}, DV H v d → RelV v u → ∃ as, Reads h u d as
  | _, _, u, .non, r => ⟨[], by rw [show u = Value.none from r]; exact .none⟩
  | _, _, u, .bl b, r => ⟨[], by rw [show u = Value.bool b from r]; exact .bool b⟩
  | _, _, u, .int i, ⟨t, e⟩ => ⟨[], by rw [e]; exact .int i t⟩
  | _, _, u, .str x, ⟨t, e⟩ => ⟨[], by rw [e]; exact .str x t⟩
  | _, _, u, .lst (a := a) (xs := xs) h1 q, r => by
    obtain ⟨_, its, n, rv, e⟩ := ok a _ h1
    obtain ⟨as, ra⟩ := q.reads ok rv
    refine ⟨a :: as, ?_⟩
    rw [show u = Value.ref a from r]
    exact .list e rfl rfl (by simpa using ra)
  | _, _, u, .tup (a := a) (xs := xs) h1 q, r => by
    obtain ⟨_, its, rv, o, e, hc, n, hd⟩ := ok a _ h1
    obtain ⟨as, ra⟩ := q.reads ok rv
    refine ⟨as, ?_⟩
    rw [show u = Value.ref a from r]
    exact .tuple e hc hd (by simpa using ra)
  | _, _, u, .emp (a := a) h1, r => ⟨_, (emp_reads ok h1 r).1⟩
theorem DVs.reads {P : Program} {w : World} {H : Hp} {h : Heap} (ok : HOk P w H h) : ∀ {vs : List V} {ds : List PyData} {us : List Value}, DVs H vs ds → Vals vs us → ∃ as, ReadsAll h us ds as
  | _, _, _, .nil, .nil => ⟨[], .nil⟩
  | _, _, _, .cons h1 q, .cons r rs => by
    obtain ⟨as, ra⟩ := h1.reads ok r
    obtain ⟨bs, rb⟩ := q.reads ok rs
    exact ⟨as ++ bs, .cons ra rb⟩
end

/-- what repr may be asked of -/
structure Nice (d : PyData) : Prop where
  shows : d.showable = true
  deep : d.depth ≤ 60
  long : d.shown.length ≤ sizeLine
  dic : d.hasDict = true → d = .dict []

theorem call_reprD {X : Cx} (gd : X.A.guards = some []) (hu : X.A.units + 100 < cLine) :
    CallR X (.builtin "repr") (fun xs H Q => ∃ v d, xs = [v] ∧ DV H v d ∧ Nice d ∧ Q (.str d.shown) H) := by
  rintro pins s σ H xs us Q I r ⟨v, d, rfl, dv, nz, q⟩
  cases r with
  | cons r0 rr =>
    cases rr
    rename_i u
    have fin : ∀ (h' : Heap) (t : Tok) (tk : Nat), (∀ b o, s.heap.get? b = some o → h'.get? b = some o) → EP X pins σ Q (.str d.shown t) { s with heap := h', toks := tk } :=
      fun h' t tk k => ⟨.str d.shown, H, I.kept (t' := tk) k, ⟨t, rfl⟩, q⟩
    have viaRef : ∀ (a : Addr) (as : List Addr), u = .ref a → Reads s.heap u d as → (d.hasDict = true → sysModules ∉ as) → wpAny (model X.prog X.w) X.A (call (.builtin "repr") [u]) (EP X pins σ Q) X.xe s := by
      rintro a as rfl rd hs
      exact repr_of_reads' rd nz.shows hs gd (by have := nz.deep; omega) (fun _ _ e => e) (fun h' t tk k => fin h' t tk k) nz.long
    have leaf : EP X pins σ Q (.str d.shown s.toks) { s with heap := s.heap, toks := s.toks + 1 } := fin s.heap s.toks (s.toks + 1) fun _ _ e => e
    obtain ⟨as, rd⟩ := dv.reads I.hok r0
    cases dv with
    | non =>
      cases (show u = Value.none from r0)
      exact P.repr_of_none (by simpa only [PyData.shown] using leaf)
    | bl b =>
      cases (show u = Value.bool b from r0)
      exact P.repr_of_bool (by simpa only [PyData.shown] using leaf)
    | int i =>
      obtain ⟨t, rfl⟩ := r0
      exact P.repr_of_int (by simpa [PyData.showable] using nz.shows) (by simpa only [PyData.shown] using leaf)
    | str x =>
      obtain ⟨t, rfl⟩ := r0
      exact P.repr_of_str (by simpa only [PyData.shown] using leaf) (by simpa only [PyData.shown] using nz.long)
    | lst h1 q1 => exact viaRef _ _ r0 rd fun z => nomatch nz.dic z
    | tup h1 q1 => exact viaRef _ _ r0 rd fun z => nomatch nz.dic z
    | @emp a h1 =>
      have z := emp_reads I.hok h1 r0
      exact viaRef _ _ r0 z.1 fun _ => z.2
end Nv
set_option Elab.async false
set_option linter.all false
set_option maxRecDepth 100000
set_option maxHeartbeats 16000000
namespace U1
open PySem PySem.Spec PyProof.Rows L2 Nv SX
/-! ### texts of walks, as lists of signs -/
def dig (c : Nat) : Bool := decide (48 ≤ c) && decide (c ≤ 57)
def val (w : List Nat) : Nat := NumText.digitsVal w
/-- a coordinate's text -/
def cwB (w : List Nat) : Bool := decide (w.length ≤ 2) && (w.all (· < 128) && ((decide (0 < w.length) && w.all Unicode.isDecimal) && (decide (TL.numL (val w) = w) && decide (val w ≤ 30))))
theorem dec128 : ∀ c : Fin 128, Unicode.isDecimal c.val = dig c.val := by decide +kernel
theorem dig_of {w : List Nat} (h1 : w.all (· < 128) = true) (h2 : w.all Unicode.isDecimal = true) : w.all dig = true := by
  rw [List.all_eq_true] at h1 h2 ⊢
  intro c hc
  have l := of_decide_eq_true (h1 c hc)
  have := dec128 ⟨c, l⟩
  rw [← this]
  exact h2 c hc
theorem cw_int {w : List Nat} (h1 : w.all (· < 128) = true) (h2 : w.all Unicode.isDecimal = true) (h0 : 0 < w.length) (hl : w.length ≤ 2) : intText? (S w) = some ((val w : Nat) : Int) :=
  int_S (dig_of h1 h2) (fun e => by rw [e] at h0; exact absurd h0 (by decide)) (by omega)
theorem cw31 : ∀ n : Fin 31, (cwB (TL.numL n.val) && decide (val (TL.numL n.val) = n.val)) = true := by decide +kernel
theorem cw_num {n : Nat} (h : n ≤ 30) : cwB (TL.numL n) = true ∧ val (TL.numL n) = n := by
  have := cw31 ⟨n, by omega⟩
  rw [Bool.and_eq_true, decide_eq_true_eq] at this
  exact this
theorem cw_of {w : List Nat} (h : cwB w = true) : TL.numL (val w) = w ∧ val w ≤ 30 ∧ intText? (S w) = some ((val w : Nat) : Int) ∧ w.length ≤ 2 := by
  unfold cwB at h
  simp only [Bool.and_eq_true, decide_eq_true_eq] at h
  obtain ⟨h1, h2, ⟨h3, h4⟩, h5, h6⟩ := h
  exact ⟨h5, h6, cw_int h2 h4 h3 h1, h1⟩
theorem cw_iff {w : List Nat} : cwB w = true ↔ ∃ n, n < 31 ∧ TL.numL n = w := by
  constructor
  · intro h
    obtain ⟨h1, h2, _⟩ := cw_of h
    exact ⟨val w, by omega, h1⟩
  · rintro ⟨n, hn, rfl⟩
    exact (cw_num (by omega)).1
def sxc (c : Nat) : Int := if c = 114 then 1 else if c = 108 then -1 else 0
def syc (c : Nat) : Int := if c = 117 then 1 else if c = 100 then -1 else 0
def dirc (c : Nat) : Bool := decide (c = 114) || (decide (c = 117) || (decide (c = 108) || decide (c = 100)))
abbrev Pt := Int × Int
def onP (p : Pt) : Bool := (decide (0 ≤ p.1) && decide (p.1 ≤ 30)) && (decide (0 ≤ p.2) && decide (p.2 ≤ 30))
def nxt (p : Pt) (c : Nat) : Pt := (p.1 + sxc c, p.2 + syc c)
/-- the points behind p -/
def path (p : Pt) : List Nat → List Pt
  | [] => []
  | c :: r => nxt p c :: path (nxt p c) r
/-- the signs are directions, and all points are on the paper -/
def walkIf (p : Pt) (q : List Nat) : Option (List Pt) := if q.all dirc = true then (if (p :: path p q).all onP = true then some (p :: path p q) else none) else none
def nums (u : List Nat) : Option Pt := match TL.spl [44] 0 [] u with
  | [a, b] => if cwB a = true then (if cwB b = true then some (((val a : Nat) : Int), ((val b : Nat) : Int)) else none) else none
  | _ => none
def parts (t : List Nat) : List Nat × List Nat := match TL.par [32] [] t with
  | some pq => pq
  | none => (t, [])
def walkOf (t : List Nat) : Option (List Pt) := match nums (parts t).1 with
  | none => none
  | some p => if 0 < (parts t).2.length ∧ (parts t).2.length < 401 then walkIf p (parts t).2 else none
/-- as the law reads -/
def dueOf (t : List Nat) : Option (List Pt) := match TL.spl [32] 0 [] t with
  | [u, q] => if q.length = 0 ∨ 400 < q.length then none else (match nums u with
    | none => none
    | some p => walkIf p q)
  | _ => none
theorem spl_pos : ∀ (s : List Nat) (l : List Nat) (k : Nat) (acc : List Nat), 1 ≤ (TL.spl s k acc l).length
  | s, [], k, acc => by rw [TL.spl_nil]; exact Nat.le_refl _
  | s, c :: r, 0, acc => by
    unfold TL.spl
    split
    · simp
    · exact spl_pos s r 0 _
  | s, c :: r, k + 1, acc => spl_pos s r k acc
theorem spl_one {c : Nat} {p : List Nat} (h : c ∉ p) : TL.spl [c] 0 [] p = [p] := by
  have := TL.spl_join (s := c) (S := []) (parts := [p]) (List.cons_ne_nil _ _) (fun x hx => by rw [List.mem_singleton.mp hx]; exact h)
  exact this
theorem cut_at {c : Nat} : ∀ {t : List Nat}, c ∈ t → ∃ p q, t = p ++ c :: q ∧ c ∉ p
  | [], h => nomatch h
  | d :: r, h => by
    by_cases e : d = c
    · exact ⟨[], r, by rw [e]; rfl, fun z => nomatch z⟩
    · have h2 : c ∈ r := by
        rcases List.mem_cons.mp h with z | z
        · exact absurd z.symm e
        · exact z
      obtain ⟨p, q, e1, n⟩ := cut_at h2
      refine ⟨d :: p, q, by rw [e1]; rfl, fun z => ?_⟩
      rcases List.mem_cons.mp z with z | z
      · exact e z.symm
      · exact n z
theorem par_cut {c : Nat} {p q : List Nat} (h : c ∉ p) : TL.par [c] [] (p ++ c :: q) = some (p, q) := par_head (sep := []) q h
theorem spl_cut {c : Nat} {p q : List Nat} (h : c ∉ p) : TL.spl [c] 0 [] (p ++ c :: q) = p :: TL.spl [c] 0 [] q := spl_free (sep := [c]) q (List.cons_ne_nil _ _) (free_head h)
theorem walkIf_no {p : Pt} {q : List Nat} (h : 32 ∈ q) : walkIf p q = none := by
  unfold walkIf
  rw [if_neg]
  intro z
  have := List.all_eq_true.mp z 32 h
  exact absurd this (by decide)
theorem due_is (t : List Nat) : dueOf t = walkOf t := by
  unfold dueOf walkOf parts
  by_cases h : 32 ∈ t
  · obtain ⟨p, q, rfl, n⟩ := cut_at h
    rw [par_cut n, spl_cut n]
    show _ = (match nums p with
      | none => none
      | some x => if 0 < q.length ∧ q.length < 401 then walkIf x q else none)
    by_cases h2 : 32 ∈ q
    · have : ∃ a b r, TL.spl [32] 0 [] q = a :: b :: r := by
        obtain ⟨p2, q2, rfl, n2⟩ := cut_at h2
        rw [spl_cut n2]
        have := spl_pos [32] q2 0 []
        cases e : TL.spl [32] 0 [] q2 with
        | nil =>
          rw [e] at this
          exact absurd this (by decide)
        | cons b r => exact ⟨p2, b, r, rfl⟩
      obtain ⟨a, b, r, e⟩ := this
      rw [e]
      show none = _
      cases nums p with
      | none => rfl
      | some x =>
        show none = if _ then walkIf x q else none
        rw [walkIf_no h2]
        split <;> rfl
    · rw [spl_one h2]
      show (if q.length = 0 ∨ 400 < q.length then none else match nums p with
        | none => none
        | some x => walkIf x q) = _
      by_cases l : q.length = 0 ∨ 400 < q.length
      · rw [if_pos l]
        cases nums p with
        | none => rfl
        | some x =>
          show none = if _ then walkIf x q else none
          rw [if_neg (by omega)]
      · rw [if_neg l]
        cases nums p with
        | none => rfl
        | some x =>
          show walkIf x q = if _ then walkIf x q else none
          rw [if_pos (by omega)]
  · rw [TL.par_none1 h, spl_one h]
    show none = _
    cases nums t with
    | none => rfl
    | some x =>
      show none = if 0 < ([] : List Nat).length ∧ ([] : List Nat).length < 401 then walkIf x [] else none
      rw [if_neg (by decide)]
def ptD (p : Pt) : PyData := .tuple [.int p.1, .int p.2]
def resD : Option (List Pt) → PyData
  | none => .none
  | some l => .tuple (l.map ptD)
end U1
set_option Elab.async false
set_option linter.all false
set_option maxRecDepth 100000
set_option maxHeartbeats 4000000
/-! self.__class__.__name__ of an exception of a class of the program. -/
namespace PySem.W
open PySem PySem.Calls PyProof.Rows PyProof.V PySem.Spec Builtin Builtin.ObjectAttr Builtin.Getset_descriptor
section
variable {prog : Program} {w : World} {A : Around} {E : Value → Shared → Prop} {s : Shared} {K : Frag} {x C : Addr} {ox : Obj} {od : Option Obj} {name : Str}

theorem nm_classE {expr : Bool} {gt : Option Value} {Q : Value → Shared → Prop} (X : K.In s.heap) (I : InstAt s.heap x ox C od) (hga : findIn K (.ref C) "__getattribute__" = some (some (.builtin "BaseException.__getattribute__"))) (hgt : findIn K (.ref C) "__getattr__" = some gt)
    (hsub : subIn K (.ref C) (.type "BaseException") = some true) (hf : findObj K C od "__class__" = some (.bind (.builtin "getset_descriptor.__get__") (.builtin "object.__class__"))) (hm : mroIn K C (.type "object") = some true)
    (h : Q (.ref C) { s with toks := s.toks + 1 }) : wpAny (model prog w) A (getAttr (.ref x) "__class__" expr) Q E s := by
  obtain ⟨hp, g, d, t, os⟩ := s
  have L0 := I.type (M := model prog w)
  have L1 := looks_findIn (M := model prog w) X hga
  have L2 := looks_findIn (M := model prog w) X hgt
  have L3 := looks_find (M := model prog w) X I hf
  have sub : Looks (model prog w) hp (isInstance (.ref x) (.type "BaseException")) true := L0.andThen (looks_subIn X hsub)
  have hx0 : (expr && onTheHeap (Value.builtin "BaseException.__getattribute__")) = false := by cases expr <;> rfl
  have hx2 : (Value.builtin "BaseException.__getattribute__" == Value.builtin "object.__getattribute__") = false := by decide +kernel
  have hx1 : (onTheHeap (Value.ref C) && Value.builtin "BaseException.__getattribute__" == Value.builtin "object.__getattribute__") = false := by rw [hx2]; rfl
  unfold getAttr getAttrBy
  refine wpAny_bind (wpAny_mkText (wpAny_holding (wpAny_bind (L0.at (wpAny_bind (L1.at ?_))))))
  show wpAny _ _ (if (onTheHeap (Value.ref C) && Value.builtin "BaseException.__getattribute__" == Value.builtin "object.__getattribute__") = true then _ else _) _ _ _
  rw [hx1, if_neg Bool.false_ne_true]
  unfold getAttrByItsOwn hookBefore
  refine wpAny_bind ?_
  rw [if_pos (show onTheHeap (Value.ref C) = true from rfl)]
  refine L2.at ?_
  refine wpAny_bind (wpAny_attempt (wpAny_holding ?_))
  unfold callGetattribute
  rw [hx0, if_neg Bool.false_ne_true]
  unfold boundAndCalled
  rw [PySem.F.excAttr_ValueError.ga.bind (.ref x)]
  refine wpAny_bind (wpAny_pure ?_)
  show wpAny _ _ (call (.builtin "BaseException.__getattribute__") [.ref x, .str "__class__" t]) _ _ _
  refine wpAny_call (codeAny_call_builtin PySem.F.excAttr_ValueError.ga.plain PySem.F.entry_bexc_ga ?_)
  refine @PySem.W.check_slot (model prog w) _ _ ⟨hp, g, d, t + 1, os⟩ "BaseException.__getattribute__" "BaseException" "__getattribute__" (.ref x) [.str "__class__" t] [] _ (by decide +kernel) (by decide +kernel) sub (PySem.F.args_bexc_ga (.ref x) (.str "__class__" t)) ?_
  unfold Builtin.«object.__getattribute__»
  refine wpAny_bind (wpAny_of_eq (a := ((Value.ref x : Value), [Value.str "__class__" t])) (by first | rfl | (simp only [slotArgs]; rfl)) ?_)
  refine wpAny_bind (wpAny_pure (wpAny_bind (L0.at (wpAny_bind (L3.at ?_)))))
  refine wpAny_bind (wpAny_holding (wpAny_call (class_get (s := ⟨hp, g, d, t + 1, os⟩) (ox := ox) (od := od) X I hm ?_)))
  refine wpAny_pure ?_
  show wpAny _ _ (handedOut (.ref C)) _ _ _
  rw [handedOut_of (show handedIn (.ref C) = true from rfl)]
  first | exact wpAny_pure h | exact wpAny_pure (wpAny_pure h)

theorem nm_dga (d tp : Value) (C : Addr) : descrGetArgs ⟨[d, .ref C, tp], []⟩ = pure (d, some (.ref C), given tp) := by kernel_rfl
/-- the text that a class keeps as its name -/
def nameIn (K : Frag) (C : Addr) : Option (Str × Tok) := match K.lookup C with
  | some o => (match o.slots[2]? with
    | some (some (Value.str x t)) => some (x, t)
    | _ => none)
  | none => none
theorem nm_slot {M : Model} {n : Str × Tok} {Q : Option Value → Shared → Prop} (X : K.In s.heap) (hn : nameIn K C = some n) (h : Q (some (.str n.1 n.2)) s) : wpAny M A (slotAt C 2) Q E s := by
  unfold nameIn at hn
  split at hn
  · rename_i o ho
    split at hn
    · rename_i x t hs
      cases hn
      unfold slotAt
      refine wpAny_bind (wpAny_loadPart (X _ _ ho) (wpAny_pure ?_))
      rw [hs]
      exact h
    · cases hn
  · cases hn
theorem nm_get {tp : Value} {n : Str × Tok} {R : Result → Shared → Prop} (X : K.In s.heap) (ht : Looks (model prog w) s.heap (typeOf (.ref C)) (.type "type")) (hn : nameIn K C = some n) (h : R (.ok (.ret (.str n.1 n.2))) s) :
    codeAny (model prog w) A (.call (.builtin "getset_descriptor.__get__") ⟨[.builtin "type.__name__", .ref C, tp], []⟩) R s := by
  obtain ⟨hh, g, dr, t, os⟩ := s
  have L0 := ht
  have L1 : Looks (model prog w) hh (isSubtype (.type "type") (.type "type")) true := Looks.of_pure (by rw [isSubtype_type]; kernel_rfl)
  refine codeAny_call_builtin KF.slot_gs.plain KF.entry_gs (KF.slot_gs.check _ _ _ _ _ _ _ _ ktyn_type (KF.args_gs _ _ _) ?_)
  unfold Builtin.«getset_descriptor.__get__» descrGet
  rw [nm_dga]
  refine wpAny_bind (wpAny_pure ?_)
  unfold descrGetter descrCheckInstance descrNameAndClass isInstance
  simp only [ktyn_owner]
  repeat lk
  refine ⟨Code.quiet_builtin _ (by decide +kernel), codeAny_builtin ktyn_entry ?_⟩
  unfold Builtin.«type.__name__» keptObject
  dsimp only
  refine wpAny_bind (nm_slot (K := K) X hn ?_)
  first
    | exact wpAny_pure h
    | exact wpAny_pure (wpAny_pure h)
    | exact wpAny_bind (wpAny_pure h)
    | exact wpAny_bind (wpAny_pure (wpAny_pure h))
    | exact wpAny_bind (wpAny_bind (wpAny_pure (wpAny_pure h)))
theorem nm_name {expr : Bool} {n : Str × Tok} {Q : Value → Shared → Prop} (X : K.In s.heap) (hr : readsIn K C (.type "type") = true) (ht : typeIn K (.ref C) = some (.type "type"))
    (e : findCls K (.ref C) (.type "type") "__name__" = some (.get (.builtin "getset_descriptor.__get__") (.builtin "type.__name__") (.ref C) (.type "type"))) (hn : nameIn K C = some n)
    (h : Q (.str n.1 n.2) { s with toks := s.toks + 1 }) : wpAny (model prog w) A (getAttr (.ref C) "__name__" expr) Q E s := by
  refine cls_read X hr e ?_
  show wpAny _ _ (do ret (← holding [Value.builtin "type.__name__"] (call (.builtin "getset_descriptor.__get__") [.builtin "type.__name__", .ref C, .type "type"]))) _ _ _
  refine wpAny_bind (wpAny_holding (wpAny_call (nm_get (K := K) (s := { s with toks := s.toks + 1 }) X (looks_typeIn X ht) hn ?_)))
  exact wpAny_pure (handed_on rfl h)
end
end PySem.W

namespace Nv
open PySem PySem.Spec PyProof.Rows L2
/-- what is asked of an exception class whose instances' class's name is read -/
structure NmC (K : PySem.W.Frag) (C : Addr) : Prop where
  ga : PySem.W.findIn K (.ref C) "__getattribute__" = some (some (.builtin "BaseException.__getattribute__"))
  gt : PySem.W.findIn K (.ref C) "__getattr__" = some none
  sb : PySem.W.subIn K (.ref C) (.type "BaseException") = some true
  cl : (PySem.W.clsIn K C).isSome = true
  cc : PySem.W.findIn K (.ref C) "__class__" = some (some (.builtin "object.__class__"))
  gs : PySem.W.specialIn K (.builtin "object.__class__") "__get__" = some (some (.builtin "getset_descriptor.__get__"))
  tk : PySem.W.takesIn K (.builtin "object.__class__") = some true
  ob : PySem.W.mroIn K C (.type "object") = some true
  rd : PySem.W.readsIn K C (.type "type") = true
  ty : PySem.W.typeIn K (.ref C) = some (.type "type")
  fc : PySem.W.findCls K (.ref C) (.type "type") "__name__" = some (.get (.builtin "getset_descriptor.__get__") (.builtin "type.__name__") (.ref C) (.type "type"))
  nm : ∃ n, PySem.W.nameIn K C = some n
section
variable {X : Cx} {e : Expr} {te : TE} {pos : Pos}
/-- o.__class__, o an exception of ours -/
theorem pe_xcls (he : PE X e te) (hb : attributeBase e "__class__" X.env (eval e X.env) = eval e X.env := by rfl) :
    PE X (.Attribute e "__class__" pos) (fun σ H Q => te σ H fun y H1 => ∃ (a C dx : Addr) (fs : List (Str × V)), y = .ref a ∧ NmC X.K C ∧ H1 a = some (exo a C (some dx)) ∧ H1 dx = some (exd dx fs) ∧ Q (.ref C) H1) := by
  constructor
  intro pins s σ H Q I h
  refine attr_of hb (thn (he.run pins s σ H _ I h) ?_)
  rintro u s1 ⟨y, H1, I1, ry, a, C, dx, fs, rfl, T, ha, hd, q⟩
  cases (show u = Value.ref a from ry)
  obtain ⟨t1, ho⟩ := exo_at I1.hok ha
  obtain ⟨mA, hns, rel⟩ := exd_at I1.hok hd
  obtain ⟨od, hod, look⟩ := lookIn_ns hns
  exact PySem.W.nm_classE (od := some od) I1.kIn ⟨ho, rfl, rfl, hod⟩ T.ga T.gt T.sb (PySem.W.findObj_dataE T.cl T.cc T.gs T.tk) T.ob ⟨V.ref C, H1, I1.tok _, rfl, q⟩
/-- C.__name__ -/
theorem pe_cname (he : PE X e te) (hb : attributeBase e "__name__" X.env (eval e X.env) = eval e X.env := by rfl) :
    PE X (.Attribute e "__name__" pos) (fun σ H Q => te σ H fun y H1 => ∃ C, y = .ref C ∧ NmC X.K C ∧ ∀ n, Q (.str n) H1) := by
  constructor
  intro pins s σ H Q I h
  refine attr_of hb (thn (he.run pins s σ H _ I h) ?_)
  rintro u s1 ⟨y, H1, I1, ry, C, rfl, T, q⟩
  cases (show u = Value.ref C from ry)
  obtain ⟨⟨n, tk⟩, hn⟩ := T.nm
  exact PySem.W.nm_name I1.kIn T.rd T.ty T.fc hn ⟨V.str n, H1, I1.tok _, ⟨tk, rfl⟩, q n⟩
end
end Nv
set_option Elab.async false
set_option linter.all false
set_option maxRecDepth 100000
set_option maxHeartbeats 4000000
/-! An own exception (its __init__ stores one field) as a value: made, its field read, its class asked. -/
namespace Nv
open PySem PySem.Spec PyProof.Rows L2

/-- the fields of an exception of ours -/
def xf (n : Str) (v : V) : List (Str × V) := [(("name" : Str), .str n), (("value" : Str), v)]
/-- the dict of an exception of ours, made of v -/
def XD (H : Hp) (dx : Addr) (v : V) : Prop := ∃ n, H dx = some (.xd (xf n v))
theorem XD.of {H : Hp} {dx : Addr} {n : Str} {v : V} : XD (upd H dx (.xd (xf n v))) dx v := ⟨n, upd_same⟩
theorem xf_value {n : Str} {v : V} : (xf n v).lookup ("value" : Str) = some v := rfl
theorem xf_name {n : Str} {v : V} : (xf n v).lookup ("name" : Str) = some (.str n) := rfl
/-- __init__(self, value): self.value = value; self.name = self.__class__.__name__ -/
def spIni (K : PySem.W.Frag) : Sp := fun vs H Q _ => ∃ (a C : Addr) (v : V), vs = [.ref a, v] ∧ OexC K C ∧ PySem.W.findIn K (.ref C) "value" = some none ∧ PySem.W.findIn K (.ref C) "name" = some none ∧ NmC K C ∧ H a = some (exo a C none) ∧
  ∀ dx n, H dx = none → dx ≠ a → Q .non (upd (upd H dx (exd dx (xf n v))) a (exo a C (some dx)))
theorem ini_heap {H : Hp} {a C dx : Addr} {n : Str} {v : V} (ne : dx ≠ a) : upd (upd (upd H dx (exd dx [(("value" : Str), v)])) a (exo a C (some dx))) dx (exd dx [(("name" : Str), .str n), (("value" : Str), v)])
    = upd (upd H dx (exd dx (xf n v))) a (exo a C (some dx)) := by
  funext b
  by_cases e1 : b = dx
  · subst e1
    rw [upd_same, upd_ne ne, upd_same]
    rfl
  · rw [upd_ne e1]
    by_cases e2 : b = a
    · rw [e2, upd_same, upd_same]
    · rw [upd_ne e2, upd_ne e2, upd_ne e1, upd_ne e1]

section
variable {X : Cx} {C fI : Addr} {k : Nat} {fd : FuncData} {x : Str} {p pos : Pos} {e : Expr} {te : TE}
/-- what is needed to make one -/
structure MkX (K : PySem.W.Frag) (C fI : Addr) : Prop where
  ox : OexC K C
  ini : PySem.W.findIn K (.ref C) "__init__" = some (some (.ref fI))
  tyI : PySem.W.typeIn K (.ref fI) = some (.type "function")
  nov : PySem.W.findIn K (.ref C) "value" = some none
  nof : PySem.W.findIn K (.ref C) "name" = some none
  nmc : NmC K C
/-- what stands behind C(e): the exception at a, its own dict at dx -/
def mkxQ (C : Addr) (Q : VK) (v : V) (H1 : Hp) : Prop := ∀ a dx n, H1 a = none → H1 dx = none → dx ≠ a → Q (.ref a) (upd (upd H1 dx (exd dx (xf n v))) a (exo a C (some dx)))
def mkxA (C : Addr) (Q : VK) : List V → Hp → Prop
  | [v], H1 => mkxQ C Q v H1
  | _, _ => False
/-- C(e) -/
theorem pe_mkx (T : MkX X.K C fI) (F1 : FnOk X.prog X.w X.K X.mg X.base CX0 k fI fd ["self", "value"] (spIni X.K)) (hr : Room (k + 1) X.A) (hb : Binds X.K fd ["self", "value"] []) (hg : Gl X x) (hm : X.mg x = some (.ref C)) (he : PE X e te)
    (hs : starEach (e :: []) X.env = (false, eval e X.env) :: starEach [] X.env := by rfl) (hpl : (backTo pos (starEach [] X.env)).any (·.1) = false := by rfl) (hdb : (x == ("__debug__" : Str)) = false := by decide) :
    PE X (.Call (.Name x p) [e] [] pos) (fun σ H Q => te σ H fun v H1 => mkxQ C Q v H1) := by
  constructor
  intro pins s σ H Q I h
  obtain ⟨nm, q, N, bs, bm, sn, sub, ab, col, dd, k0, k1, k2, k3, k5, hC, hbm⟩ := T.ox.cls
  have arg : PA X [e] (tCons te tNil) := pa_cons he pa_nil hs
  refine wpAny_Call_Name_kw (ld_glob I hg hm (PySem.W.callWith_K (h₀ := X.base) I.ok.mod.kin T.ox.kC (thn (arg.run pos pins s σ H (mkxA C Q) I h) ?_) hs hpl) hdb)
  rintro us ⟨hp, g, dr, tk, os⟩ ⟨vs, H1, I1, r1, q1⟩
  obtain ⟨v, rfl⟩ : ∃ v, vs = [v] := by
    rcases vs with _ | ⟨v, _ | ⟨_, _⟩⟩
    · exact q1.elim
    · exact ⟨v, rfl⟩
    · exact q1.elim
  have q2 : mkxQ C Q v H1 := q1
  refine ⟨I1.kIn, ?_⟩
  cases r1 with
  | cons rv rr =>
    cases rr
    rename_i u
    have h2 : ((hp.push (PySem.W.kdv_tup [u])).push (PySem.HandSPX.excO C hp.objs.size)).get? (hp.objs.size + 1) = some (PySem.HandSPX.excO C hp.objs.size) := by heap_get
    have new : hp.objs.size ≤ hp.objs.size + 1 := Nat.le_succ _
    have J := I1.laid (t' := tk) (a := hp.objs.size + 1) (o := exo (hp.objs.size + 1) C none) (h' := (hp.push (PySem.W.kdv_tup [u])).push (PySem.HandSPX.excO C hp.objs.size))
      (fun _ _ z => Heap.get?_push_of_some _ (Heap.get?_push_of_some _ z)) new (exo_ok h2)
    have nH : H1 (hp.objs.size + 1) = none := I1.hok.fresh new
    have want : spIni X.K [.ref (hp.objs.size + 1), v] (upd H1 (hp.objs.size + 1) (exo (hp.objs.size + 1) C none)) (fun z H2 => z = .non ∧ Q (.ref (hp.objs.size + 1)) H2) E0 := by
      refine ⟨_, C, v, rfl, T.ox, T.nov, T.nof, T.nmc, upd_same, fun dx n nd ne => ⟨rfl, ?_⟩⟩
      have nd1 : H1 dx = none := by rw [upd_ne ne] at nd; exact nd
      have z := q2 _ dx n nH nd1 ne
      have eh : upd (upd (upd H1 (hp.objs.size + 1) (exo (hp.objs.size + 1) C none)) dx (exd dx (xf n v))) (hp.objs.size + 1) (exo (hp.objs.size + 1) C (some dx))
          = upd (upd H1 dx (exd dx (xf n v))) (hp.objs.size + 1) (exo (hp.objs.size + 1) C (some dx)) := by
        funext b
        by_cases e1 : b = hp.objs.size + 1
        · rw [e1, upd_same, upd_same]
        · rw [upd_ne e1, upd_ne e1]
          by_cases e2 : b = dx
          · rw [e2, upd_same, upd_same]
          · rw [upd_ne e2, upd_ne e2, upd_ne e1]
      rw [eh]
      exact z
    refine wpAny_call (PySem.HandSPX.call_own F.excBase_ValueError (fun Y => PySem.HandSPX.refsVE_contains Y bm hbm) (I1.kIn _ _ hC) (PySem.W.looks_findIn I1.kIn T.ini) (fun self => PySem.W.bind_fn I1.kIn self T.tyI) (by show 1 ≤ sizeLine; decide) ?_)
    refine codeAny_mono (F1.run _ X.stack _ _ ⟨[.ref (hp.objs.size + 1), u], []⟩ [.ref (hp.objs.size + 1), u] [.ref (hp.objs.size + 1), v] _ E0 (hr.make C [u] []) (J.env0.make C [u] []) (hb _ [.ref (hp.objs.size + 1), u] J.kIn rfl) (.cons rfl (.cons rv .nil)) want) ?_
    rintro (z | (_ | _ | _ | r)) s' hz
    · exact hz.elim
    · exact hz.elim
    · exact hz.elim
    · exact hz.elim
    · obtain ⟨v', H', I3, rv', ev, q3⟩ := J.after hz
      subst ev
      exact ⟨rv', ⟨.ref (hp.objs.size + 1), H', I3, rfl, q3⟩⟩

/-- o.n, o such an exception -/
theorem pe_xval {n : Str} (he : PE X e te) (hb : attributeBase e n X.env (eval e X.env) = eval e X.env := by rfl) :
    PE X (.Attribute e n pos) (fun σ H Q => te σ H fun y H1 => ∃ (a C dx : Addr) (fs : List (Str × V)) (v : V), y = .ref a ∧ XfC X.K C ∧ PySem.W.findIn X.K (.ref C) n = some none ∧ H1 a = some (exo a C (some dx)) ∧ H1 dx = some (exd dx fs) ∧ fs.lookup n = some v ∧ Q v H1) := by
  constructor
  intro pins s σ H Q I h
  refine attr_of hb (thn (he.run pins s σ H _ I h) ?_)
  rintro u s1 ⟨y, H1, I1, ry, a, C, dx, fs, v, rfl, T, nn, ha, hd, hl, q⟩
  cases (show u = Value.ref a from ry)
  obtain ⟨t1, ho⟩ := exo_at I1.hok ha
  obtain ⟨mA, hns, rel⟩ := exd_at I1.hok hd
  obtain ⟨od, hod, look⟩ := lookIn_ns hns
  have rn := rel n
  rw [hl] at rn
  obtain ⟨r, hr, rr⟩ := rn.some_of
  exact HandSPX.exc_get I1.kIn ⟨ho, rfl, rfl, hod⟩ T.ga T.gg T.exC (PySem.W.findObj_own T.hdC nn rfl (by rw [look, hr])) (handed_of rr) ⟨v, H1, I1.tok _, rr, q⟩

/-- an exception of the class at C stands at a -/
inductive XIn (H : Hp) (a C : Addr) : Prop
  | mk (dx : Addr) (u : HO) (φ : Heap → Prop) (ha : H a = some (.ext φ)) (hφ : ∀ h, φ h → ∃ ox, h.get? a = some ox ∧ ox.cls = .ref C ∧ ox.dict = some dx ∧ PySem.W.notCls ox = true)
      (hd : H dx = some u) (hu : (∃ fs, u = exd dx fs) ∨ ∃ fs, u = .xd fs)
theorem XIn.inst {P : Program} {w : World} {H : Hp} {h : Heap} {a C : Addr} (x : XIn H a C) (ok : HOk P w H h) : ∃ ox od, PySem.W.InstAt h a ox C od := by
  obtain ⟨dx, u, φ, ha, hφ, hd, hu⟩ := x
  obtain ⟨ox, g, c, d, n⟩ := hφ h (ok a _ ha).1
  have : ∃ o, h.get? dx = some o := by
    rcases hu with ⟨fs, rfl⟩ | ⟨fs, rfl⟩
    · obtain ⟨mA, ⟨o, _, _, e, _⟩, _⟩ := exd_at ok hd
      exact ⟨o, e⟩
    · obtain ⟨mA, ⟨o, _, _, e, _⟩, _⟩ := ok dx _ hd
      exact ⟨o, e⟩
  obtain ⟨o, ho⟩ := this
  exact ⟨ox, some o, g, c, n, by rw [d]; exact ho⟩
theorem XIn.of_made {H : Hp} {a C dx : Addr} {fs : List (Str × V)} (ha : H a = some (exo a C (some dx))) (hd : H dx = some (exd dx fs)) : XIn H a C :=
  .mk dx _ _ ha (fun h ⟨t, e⟩ => ⟨_, e, rfl, rfl, rfl⟩) hd (.inl ⟨fs, rfl⟩)
theorem XIn.more {H H' : Hp} {a C : Addr} (k : Same H H') (x : XIn H a C) : XIn H' a C := by
  obtain ⟨dx, u, φ, ha, hφ, hd, hu⟩ := x
  exact .mk dx u φ (k _ _ ha) hφ (k _ _ hd) hu

/-- what isinstance asks of the class -/
structure XCls (K : PySem.W.Frag) (C : Addr) : Prop where
  cl : (PySem.W.clsIn K C).isSome = true
  ga : PySem.W.findIn K (.ref C) "__getattribute__" = some (some (.builtin "BaseException.__getattribute__"))
  gt : PySem.W.findIn K (.ref C) "__getattr__" = some none
  sb : PySem.W.subIn K (.ref C) (.type "BaseException") = some true
  cc : PySem.W.findIn K (.ref C) "__class__" = some (some (.builtin "object.__class__"))
  gs : PySem.W.specialIn K (.builtin "object.__class__") "__get__" = some (some (.builtin "getset_descriptor.__get__"))
  tk : PySem.W.takesIn K (.builtin "object.__class__") = some true
  ob : PySem.W.mroIn K C (.type "object") = some true
theorem call_isX : CallR X (.builtin "isinstance") (fun xs H Q => ∃ (a C : Addr) (c : V) (cv : Value) (b : Bool), xs = [.ref a, c] ∧ XIn H a C ∧ XCls X.K C ∧ ClsV c cv ∧ PySem.W.kitOne X.K (.ref C) cv = some b ∧ Q (.bl b) H) := by
  rintro pins s σ H xs us Q I r ⟨a, C, c, cv, b, rfl, x, T, k, hk, q⟩
  obtain ⟨ox, od, J⟩ := x.inst I.hok
  cases r with
  | cons ra rr =>
    cases rr with
    | cons rc rr =>
      cases rr
      rename_i u1 u2
      cases (show u1 = Value.ref a from ra)
      have e2 := k.eq rc
      subst e2
      exact PySem.W.kia_one (PySem.W.kitx_exc T.cl T.ga T.gt T.sb T.cc T.gs T.tk T.ob) I.kIn J hk (fun z => nomatch z) fun tk => ⟨.bl b, H, I.tok tk, rfl, q⟩
end
end Nv
set_option Elab.async false
set_option linter.all false
set_option maxRecDepth 100000
set_option maxHeartbeats 4000000
/-! try with several except clauses, each with a name or none. -/
namespace Nv
open PySem PySem.Spec PyProof.Rows L2

/-- a clause: its class, its name's slot, its suite's reading -/
abbrev Clause := Value × Option Nat × (Addr → Value → Option Addr → TS)
/-- behind a suite its name's slot is empty -/
def blank (D : Ends) (i : Nat) : Ends :=
  { nx := fun σ H => D.nx (σ.set i none) H, rt := D.rt, bk := fun σ H => D.bk (σ.set i none) H, ct := fun σ H => D.ct (σ.set i none) H }
/-- what the clauses wish -/
def wHds (K : PySem.W.Frag) (Wout : WX) (D : Ends) : List Clause → WX
  | [] => Wout
  | (c, i, ts) :: r => fun cls d σ H => ∃ b, PySem.W.exmOne K cls c = some b ∧
      (b = true → ∀ a, H a = none → match i with
        | none => ts a cls d D σ H
        | some j => ts a cls d (blank D j) (σ.set j (some (.ref a))) H) ∧
      (b = false → wHds K Wout D r cls d σ H)
/-- a suite keeps its reading, whatever exception it holds -/
def SuiteOk (X : Cx) (suite : List Stmt) (ts : Addr → Value → Option Addr → TS) : Prop :=
  ∀ (a : Addr) (oe : Obj) (cls : Value) (d : Option Addr) (pn : List (Addr × Obj)), Zc cls d oe → (∃ vs, oe.data = .fields vs) → X.base.get? a = none → PSs (X.suite a ((a, oe) :: pn)) suite (ts a cls d)
inductive Hds (X : Cx) : List ExceptHandler → List Clause → Prop
  | nil : Hds X [] []
  | bare {x : Str} {c : Value} {ts : Addr → Value → Option Addr → TS} {b₀ : Stmt} {suite : List Stmt} {p p' : Pos} {hds : List ExceptHandler} {l : List Clause}
      (nm : Names X x c) (su : SuiteOk X (b₀ :: suite) ts) (r : Hds X hds l) : Hds X (.ExceptHandler (some (.Name x p)) none (b₀ :: suite) p' :: hds) ((c, none, ts) :: l)
  | named {x n : Str} {i : Nat} {c : Value} {ts : Addr → Value → Option Addr → TS} {b₀ : Stmt} {suite : List Stmt} {p p' : Pos} {hds : List ExceptHandler} {l : List Clause}
      (nm : Names X x c) (hi : X.N[i]? = some n) (hl : X.env.kindOf n = some .local) (su : SuiteOk X (b₀ :: suite) ts) (r : Hds X hds l) :
      Hds X (.ExceptHandler (some (.Name x p)) (some n) (b₀ :: suite) p' :: hds) ((c, some i, ts) :: l)

section
variable {X : Cx} {pins : List (Addr × Obj)} {σ : L2.St} {H : Hp} {a : Addr} {cls : Value} {d : Option Addr} {B : Heap} {sI s : Shared}
/-- an exception stands caught -/
structure Caught (X : Cx) (pins : List (Addr × Obj)) (σ : L2.St) (H : Hp) (a : Addr) (cls : Value) (d : Option Addr) (B : Heap) (sI s : Shared) : Prop where
  inv0 : Inv X pins σ H sI
  gr : ∀ b o, sI.heap.get? b = some o → b ∉ frs X.stack → B.get? b = some o
  up : sI.heap.UpToSlots s.heap
  os : s.os = sI.os
  ag : AllBare s.gens
  na : H a = none
  fl : HandSPX.FlyingZ B (X.env :: X.outer) a (Zc cls d) s.heap
theorem Caught.inv (z : Caught X pins σ H a cls d B sI s) : Inv X pins σ H s := z.inv0.landed z.gr z.fl.1 z.up z.os z.ag
theorem Caught.again (z : Caught X pins σ H a cls d B sI s) {h : Heap} (fl : HandSPX.FlyingZ B (X.env :: X.outer) a (Zc cls d) h) (u : s.heap.UpToSlots h) : Caught X pins σ H a cls d B sI { s with heap := h } :=
  ⟨z.inv0, z.gr, z.up.trans u, z.os, z.ag, z.na, fl⟩
theorem Caught.apart (z : Caught X pins σ H a cls d B sI s) : a ∉ frs (X.env :: X.outer) := by
  obtain ⟨oe, vs, he, _, hd⟩ := z.fl.there
  intro hm
  obtain ⟨_, o, ho, nf⟩ := z.fl.2.2.1.mem hm
  rw [he] at ho
  cases ho
  exact nf _ hd
theorem Caught.notBase (z : Caught X pins σ H a cls d B sI s) : X.base.get? a = none := by
  cases q : X.base.get? a with
  | none => rfl
  | some o =>
    have h1 := (z.inv0.bs a o q).1
    have h2 : a ∉ frs X.stack := fun hm => by
      rcases List.mem_cons.mp (z.inv0.stkSub a hm) with e | hf
      · exact absurd (Nat.lt_of_lt_of_le (Heap.lt_size q) z.inv0.ok.bsz) (by rw [e]; exact Nat.not_lt.mpr z.inv0.ok.above)
      · exact z.inv0.ok.nofr q hf
    exact absurd (z.gr a o h1 h2) (by rw [z.fl.2.1]; exact fun y => nomatch y)
theorem Caught.suite (z : Caught X pins σ H a cls d B sI s) (hf : X.env.frame = some X.env.locals) :
    ∃ oe, s.heap.get? a = some oe ∧ Zc cls d oe ∧ (∃ vs, oe.data = .fields vs) ∧ Inv (X.suite a ((a, oe) :: (X.pn ++ pins))) [] σ H s := by
  obtain ⟨oe, vs, he, hz, hd⟩ := z.fl.there
  have ap := z.apart
  have e0 : frs (X.env :: X.outer) = X.env.locals :: frs X.outer := by
    unfold frs
    rw [List.filterMap_cons, hf]
  rw [e0] at ap
  exact ⟨oe, he, hz, ⟨vs, hd⟩, z.inv.suite he hd z.na (fun e => ap (by rw [e]; exact List.mem_cons_self)) fun hm => ap (List.mem_cons_of_mem _ hm)⟩

variable {Wout : WX} {D : Ends}
theorem handled_by (hs : X.stack = X.env :: X.outer) (hf : X.env.frame = some X.env.locals) (hN : X.N.Nodup) (tk : Takes X Wout) {hds : List ExceptHandler} {l : List Clause} (hh : Hds X hds l) :
    ∀ s, Caught X pins σ H a cls d B sI s → wHds X.K Wout D l cls d σ H → wpAny (model X.prog X.w) X.A (handleBy (.ref a) X.env hds) (SP X pins D) X.xe s := by
  have look : ∀ {s : Shared} {x : Str} {c : Value} {p : Pos} {R : Value → Shared → Prop} {E1 : Value → Shared → Prop}, Caught X pins σ H a cls d B sI s → Names X x c → R c s →
      wpAny (model X.prog X.w) (X.A.mark (some (.ref a))) (eval (.Name x p) X.env) R E1 s := by
    intro s x c p R E1 z nm q
    obtain ⟨oe, _, _, _, S⟩ := z.suite hf
    obtain ⟨g, nd, h | ⟨h, hv, nn⟩⟩ := nm
    · exact ld_glob (X := X.suite a ((a, oe) :: (X.pn ++ pins))) S g h q nd
    · exact ld_blt (X := X.suite a ((a, oe) :: (X.pn ++ pins))) S g h hv q nn nd
  have asks : ∀ {s : Shared} {c : Value} {b : Bool}, Caught X pins σ H a cls d B sI s → PySem.W.exmOne X.K cls c = some b →
      PySem.W.Looks (model X.prog X.w) s.heap (excMatches (.ref a) c) b := by
    intro s c b z e
    obtain ⟨oe, he, hz, _, _⟩ := z.suite hf
    exact PySem.W.exm_one (M := model X.prog X.w) z.inv.kIn (fun A' Q' E' s' k q => wpAny_typeOf_ref (k _ _ he) (by rw [hz.1]; exact q)) e
  have ok := fun (s : Shared) (z : Caught X pins σ H a cls d B sI s) => z.inv0.ok
  induction hh with
  | nil =>
    intro s z w
    obtain ⟨_, _, _, oe, vs, T, _, _, he, _, hd, h1, _⟩ := id z.fl
    have up : wpAny (model X.prog X.w) X.A (setFlight (.ref a) X.env.frame) (fun _ s4 => wpAny (model X.prog X.w) X.A (throw (.ref a) : Sem Flow) (SP X pins D) X.xe s4) X.xe s := by
      rw [hf]
      refine HandSPX.setFlight_upZ z.fl fun h4 held u4 => wpAny_throw (tk _ _ ?_)
      exact ⟨a, B, sI, pins, σ, H, cls, d, rfl, z.inv0, z.gr, z.up.trans u4, .inr (.inr (by rw [hs]; exact held)), z.na, z.os, z.ag, w⟩
    refine wpAny_handleBy_nil ?_
    unfold PySem.passOn
    refine wpAny_bind (wpAny_field he hd h1 ?_)
    rw [if_neg (by simp)]
    first | exact wpAny_bind up | exact wpAny_bind (wpAny_pure (wpAny_bind up))
  | bare nm su r ih =>
    intro s z w
    obtain ⟨b, e, yes, no⟩ := w
    refine wpAny_handleBy_cons (codeAny_handlers_test (look z nm ((asks z e).here ?_))) (by intro q; cases q)
    rcases b with _ | _
    · exact ih s z (no rfl)
    refine codeAny_handlers_suite (HandSPX.lands_againZ z.fl fun h4 fl4 u4 => ?_)
    obtain ⟨oe, he, hz, hv, S⟩ := (z.again fl4 u4).suite hf
    refine wpAny_mono ((su a oe cls d (X.pn ++ pins) hz hv z.notBase).run [] _ σ H D S (yes rfl a z.na)) ?_ fun _ _ y => y.elim
    rintro (_ | _ | _ | u) s6 q
    · obtain ⟨σ6, H6, S6, q6⟩ := q
      exact ⟨σ6, H6, S6.unsuite (ok s z), q6⟩
    · obtain ⟨σ6, H6, S6, q6⟩ := q
      exact ⟨σ6, H6, S6.unsuite (ok s z), q6⟩
    · obtain ⟨σ6, H6, S6, q6⟩ := q
      exact ⟨σ6, H6, S6.unsuite (ok s z), q6⟩
    · obtain ⟨v6, σ6, H6, S6, r6, q6⟩ := q
      exact ⟨v6, σ6, H6, S6.unsuite (ok s z), r6, q6⟩
  | named nm hi hl su r ih =>
    intro s z w
    obtain ⟨b, e, yes, no⟩ := w
    refine wpAny_handleBy_cons (codeAny_handlers_test (look z nm ((asks z e).here ?_))) (by intro q; cases q)
    rcases b with _ | _
    · exact ih s z (no rfl)
    refine codeAny_handlers_suite_as (HandSPX.lands_againZ z.fl fun h4 fl4 u4 => ?_)
    obtain ⟨oe, he, hz, hv, S⟩ := (z.again fl4 u4).suite hf
    refine store_ok (X := X.suite a ((a, oe) :: (X.pn ++ pins))) (v := .ref a) S hN hi (.inl hl) rfl (fun s5 S5 => ?_) (.inr hl)
    refine wpAny_mono ((su a oe cls d (X.pn ++ pins) hz hv z.notBase).run [] s5 _ H _ S5 (yes rfl a z.na)) ?_ fun _ _ y => y.elim
    have wipes : ∀ {σ6 : L2.St} {H6 : Hp} {s6 : Shared} {R : Shared → Prop} {p' : Pos}, Inv (X.suite a ((a, oe) :: (X.pn ++ pins))) [] σ6 H6 s6 → (∀ s7, Inv X pins (σ6.set _ none) H6 s7 → R s7) →
        wpAny (model X.prog X.w) X.A (do bindName X.env _ .none; unbindBehindTheSuite X.env _ p') (fun _ s7 => R s7) X.xe s6 := fun S6 q => gone_ok (S6.unsuite (ok s z)) hN hi hl q
    rintro (_ | _ | _ | u) s6 q
    · obtain ⟨σ6, H6, S6, q6⟩ := q
      exact wipes S6 fun s7 J => ⟨_, H6, J, q6⟩
    · obtain ⟨σ6, H6, S6, q6⟩ := q
      exact wipes S6 fun s7 J => ⟨_, H6, J, q6⟩
    · obtain ⟨σ6, H6, S6, q6⟩ := q
      exact wipes S6 fun s7 J => ⟨_, H6, J, q6⟩
    · obtain ⟨v6, σ6, H6, S6, r6, q6⟩ := q
      exact wipes S6 fun s7 J => ⟨v6, _, H6, J, r6, q6⟩
end

/-- try: body, then the clauses -/
theorem ps_try_hds {X : Cx} {body : List Stmt} {h₀ : ExceptHandler} {hds : List ExceptHandler} {l : List Clause} {pos : Pos} {tb : WX → TS} {Wout : WX}
    (hs : X.stack = X.env :: X.outer) (hf : X.env.frame = some X.env.locals) (hN : X.N.Nodup) (tk : Takes X Wout)
    (hb : ∀ (W : WX) (pn : List (Addr × Obj)) (xe : Value → Shared → Prop), Takes (X.tr pn xe) W → PassesOwn (model X.prog X.w) X.A X.env xe → PSs (X.tr pn xe) body (tb W))
    (hh : Hds X (h₀ :: hds) l) : PS X (.Try body (h₀ :: hds) [] [] pos) (fun D σ H => tb (wHds X.K Wout D l) D σ H) := by
  constructor
  intro pins s σ H D I h
  have ok := I.ok
  let xe : Value → Shared → Prop := fun e s1 => wpAny (model X.prog X.w) X.A (noteFrame e X.env) (fun _ s2 => wpAny (model X.prog X.w) X.A (setFlight e none) (fun _ s3 =>
    wpAny (model X.prog X.w) X.A (handleBy e X.env (h₀ :: hds)) (SP X pins D) X.xe s3) X.xe s2) X.xe s1
  have takes : Takes (X.tr (X.pn ++ pins) xe) (wHds X.K Wout D l) := by
    rintro u s' ⟨a, B, sI, pins', σ', H', cls, d, rfl, J', gr, up, sky, na, os, ag, w⟩
    have J : Inv X pins σ' H' sI := J'.ofTry ok
    rw [show (X.tr (X.pn ++ pins) xe).stack = X.env :: X.outer from hs] at sky
    refine Sky.land Zc.steady (by rw [ok.frames, hs]) hf sky fun h3 fl up3 => ?_
    exact handled_by hs hf hN tk hh _ ⟨J, gr, up.trans up3, os, ag, na, fl⟩ w
  refine wpAny_Try_except (wpAny_mono ((hb _ (X.pn ++ pins) xe takes PassesOwn.looking).run [] s σ H D (I.toTry _) h) ?_ fun _ _ y => y)
  rintro (_ | _ | _ | u) s1 q
  · obtain ⟨σ', H', J, q⟩ := q
    exact wpAny_execs_nil ⟨σ', H', J.ofTry ok, q⟩
  · obtain ⟨σ', H', J, q⟩ := q
    exact ⟨σ', H', J.ofTry ok, q⟩
  · obtain ⟨σ', H', J, q⟩ := q
    exact ⟨σ', H', J.ofTry ok, q⟩
  · obtain ⟨v, σ', H', J, r, q⟩ := q
    exact ⟨v, σ', H', J.ofTry ok, r, q⟩
end Nv
set_option Elab.async false
set_option linter.all false
set_option maxRecDepth 100000
set_option maxHeartbeats 4000000
/-! The same for exceptions that were raised where nothing is handled (their context is None, which the suites may use). -/
namespace NvN
open PySem PySem.Spec PyProof.Rows L2 Nv

/-- a suite keeps its reading, whatever exception it holds -/
def SuiteOk (X : Cx) (suite : List Stmt) (ts : Addr → Value → Option Addr → TS) : Prop :=
  ∀ (a : Addr) (oe : Obj) (cls : Value) (d : Option Addr) (pn : List (Addr × Obj)), L2N.Zn cls d oe → (∃ vs, oe.data = .fields vs) → X.base.get? a = none → PSs (X.suite a ((a, oe) :: pn)) suite (ts a cls d)
inductive Hds (X : Cx) : List ExceptHandler → List Clause → Prop
  | nil : Hds X [] []
  | bare {x : Str} {c : Value} {ts : Addr → Value → Option Addr → TS} {b₀ : Stmt} {suite : List Stmt} {p p' : Pos} {hds : List ExceptHandler} {l : List Clause}
      (nm : Names X x c) (su : SuiteOk X (b₀ :: suite) ts) (r : Hds X hds l) : Hds X (.ExceptHandler (some (.Name x p)) none (b₀ :: suite) p' :: hds) ((c, none, ts) :: l)
  | named {x n : Str} {i : Nat} {c : Value} {ts : Addr → Value → Option Addr → TS} {b₀ : Stmt} {suite : List Stmt} {p p' : Pos} {hds : List ExceptHandler} {l : List Clause}
      (nm : Names X x c) (hi : X.N[i]? = some n) (hl : X.env.kindOf n = some .local) (su : SuiteOk X (b₀ :: suite) ts) (r : Hds X hds l) :
      Hds X (.ExceptHandler (some (.Name x p)) (some n) (b₀ :: suite) p' :: hds) ((c, some i, ts) :: l)

section
variable {X : Cx} {pins : List (Addr × Obj)} {σ : L2.St} {H : Hp} {a : Addr} {cls : Value} {d : Option Addr} {B : Heap} {sI s : Shared}
/-- an exception stands caught -/
structure Caught (X : Cx) (pins : List (Addr × Obj)) (σ : L2.St) (H : Hp) (a : Addr) (cls : Value) (d : Option Addr) (B : Heap) (sI s : Shared) : Prop where
  inv0 : Inv X pins σ H sI
  gr : ∀ b o, sI.heap.get? b = some o → b ∉ frs X.stack → B.get? b = some o
  up : sI.heap.UpToSlots s.heap
  os : s.os = sI.os
  ag : AllBare s.gens
  na : H a = none
  fl : HandSPX.FlyingZ B (X.env :: X.outer) a (L2N.Zn cls d) s.heap
theorem Caught.inv (z : Caught X pins σ H a cls d B sI s) : Inv X pins σ H s := z.inv0.landed z.gr z.fl.1 z.up z.os z.ag
theorem Caught.again (z : Caught X pins σ H a cls d B sI s) {h : Heap} (fl : HandSPX.FlyingZ B (X.env :: X.outer) a (L2N.Zn cls d) h) (u : s.heap.UpToSlots h) : Caught X pins σ H a cls d B sI { s with heap := h } :=
  ⟨z.inv0, z.gr, z.up.trans u, z.os, z.ag, z.na, fl⟩
theorem Caught.apart (z : Caught X pins σ H a cls d B sI s) : a ∉ frs (X.env :: X.outer) := by
  obtain ⟨oe, vs, he, _, hd⟩ := z.fl.there
  intro hm
  obtain ⟨_, o, ho, nf⟩ := z.fl.2.2.1.mem hm
  rw [he] at ho
  cases ho
  exact nf _ hd
theorem Caught.notBase (z : Caught X pins σ H a cls d B sI s) : X.base.get? a = none := by
  cases q : X.base.get? a with
  | none => rfl
  | some o =>
    have h1 := (z.inv0.bs a o q).1
    have h2 : a ∉ frs X.stack := fun hm => by
      rcases List.mem_cons.mp (z.inv0.stkSub a hm) with e | hf
      · exact absurd (Nat.lt_of_lt_of_le (Heap.lt_size q) z.inv0.ok.bsz) (by rw [e]; exact Nat.not_lt.mpr z.inv0.ok.above)
      · exact z.inv0.ok.nofr q hf
    exact absurd (z.gr a o h1 h2) (by rw [z.fl.2.1]; exact fun y => nomatch y)
theorem Caught.suite (z : Caught X pins σ H a cls d B sI s) (hf : X.env.frame = some X.env.locals) :
    ∃ oe, s.heap.get? a = some oe ∧ L2N.Zn cls d oe ∧ (∃ vs, oe.data = .fields vs) ∧ Inv (X.suite a ((a, oe) :: (X.pn ++ pins))) [] σ H s := by
  obtain ⟨oe, vs, he, hz, hd⟩ := z.fl.there
  have ap := z.apart
  have e0 : frs (X.env :: X.outer) = X.env.locals :: frs X.outer := by
    unfold frs
    rw [List.filterMap_cons, hf]
  rw [e0] at ap
  exact ⟨oe, he, hz, ⟨vs, hd⟩, z.inv.suite he hd z.na (fun e => ap (by rw [e]; exact List.mem_cons_self)) fun hm => ap (List.mem_cons_of_mem _ hm)⟩

variable {Wout : WX} {D : Ends}
theorem handled_by (hs : X.stack = X.env :: X.outer) (hf : X.env.frame = some X.env.locals) (hN : X.N.Nodup) (tk : L2N.Takes X Wout) {hds : List ExceptHandler} {l : List Clause} (hh : Hds X hds l) :
    ∀ s, Caught X pins σ H a cls d B sI s → wHds X.K Wout D l cls d σ H → wpAny (model X.prog X.w) X.A (handleBy (.ref a) X.env hds) (SP X pins D) X.xe s := by
  have look : ∀ {s : Shared} {x : Str} {c : Value} {p : Pos} {R : Value → Shared → Prop} {E1 : Value → Shared → Prop}, Caught X pins σ H a cls d B sI s → Names X x c → R c s →
      wpAny (model X.prog X.w) (X.A.mark (some (.ref a))) (eval (.Name x p) X.env) R E1 s := by
    intro s x c p R E1 z nm q
    obtain ⟨oe, _, _, _, S⟩ := z.suite hf
    obtain ⟨g, nd, h | ⟨h, hv, nn⟩⟩ := nm
    · exact ld_glob (X := X.suite a ((a, oe) :: (X.pn ++ pins))) S g h q nd
    · exact ld_blt (X := X.suite a ((a, oe) :: (X.pn ++ pins))) S g h hv q nn nd
  have asks : ∀ {s : Shared} {c : Value} {b : Bool}, Caught X pins σ H a cls d B sI s → PySem.W.exmOne X.K cls c = some b →
      PySem.W.Looks (model X.prog X.w) s.heap (excMatches (.ref a) c) b := by
    intro s c b z e
    obtain ⟨oe, he, hz, _, _⟩ := z.suite hf
    exact PySem.W.exm_one (M := model X.prog X.w) z.inv.kIn (fun A' Q' E' s' k q => wpAny_typeOf_ref (k _ _ he) (by rw [hz.1]; exact q)) e
  have ok := fun (s : Shared) (z : Caught X pins σ H a cls d B sI s) => z.inv0.ok
  induction hh with
  | nil =>
    intro s z w
    obtain ⟨_, _, _, oe, vs, T, _, _, he, _, hd, h1, _⟩ := id z.fl
    have up : wpAny (model X.prog X.w) X.A (setFlight (.ref a) X.env.frame) (fun _ s4 => wpAny (model X.prog X.w) X.A (throw (.ref a) : Sem Flow) (SP X pins D) X.xe s4) X.xe s := by
      rw [hf]
      refine HandSPX.setFlight_upZ z.fl fun h4 held u4 => wpAny_throw (tk _ _ ?_)
      exact ⟨a, B, sI, pins, σ, H, cls, d, rfl, z.inv0, z.gr, z.up.trans u4, .inr (.inr (by rw [hs]; exact held)), z.na, z.os, z.ag, w⟩
    refine wpAny_handleBy_nil ?_
    unfold PySem.passOn
    refine wpAny_bind (wpAny_field he hd h1 ?_)
    rw [if_neg (by simp)]
    first | exact wpAny_bind up | exact wpAny_bind (wpAny_pure (wpAny_bind up))
  | bare nm su r ih =>
    intro s z w
    obtain ⟨b, e, yes, no⟩ := w
    refine wpAny_handleBy_cons (codeAny_handlers_test (look z nm ((asks z e).here ?_))) (by intro q; cases q)
    rcases b with _ | _
    · exact ih s z (no rfl)
    refine codeAny_handlers_suite (HandSPX.lands_againZ z.fl fun h4 fl4 u4 => ?_)
    obtain ⟨oe, he, hz, hv, S⟩ := (z.again fl4 u4).suite hf
    refine wpAny_mono ((su a oe cls d (X.pn ++ pins) hz hv z.notBase).run [] _ σ H D S (yes rfl a z.na)) ?_ fun _ _ y => y.elim
    rintro (_ | _ | _ | u) s6 q
    · obtain ⟨σ6, H6, S6, q6⟩ := q
      exact ⟨σ6, H6, S6.unsuite (ok s z), q6⟩
    · obtain ⟨σ6, H6, S6, q6⟩ := q
      exact ⟨σ6, H6, S6.unsuite (ok s z), q6⟩
    · obtain ⟨σ6, H6, S6, q6⟩ := q
      exact ⟨σ6, H6, S6.unsuite (ok s z), q6⟩
    · obtain ⟨v6, σ6, H6, S6, r6, q6⟩ := q
      exact ⟨v6, σ6, H6, S6.unsuite (ok s z), r6, q6⟩
  | named nm hi hl su r ih =>
    intro s z w
    obtain ⟨b, e, yes, no⟩ := w
    refine wpAny_handleBy_cons (codeAny_handlers_test (look z nm ((asks z e).here ?_))) (by intro q; cases q)
    rcases b with _ | _
    · exact ih s z (no rfl)
    refine codeAny_handlers_suite_as (HandSPX.lands_againZ z.fl fun h4 fl4 u4 => ?_)
    obtain ⟨oe, he, hz, hv, S⟩ := (z.again fl4 u4).suite hf
    refine store_ok (X := X.suite a ((a, oe) :: (X.pn ++ pins))) (v := .ref a) S hN hi (.inl hl) rfl (fun s5 S5 => ?_) (.inr hl)
    refine wpAny_mono ((su a oe cls d (X.pn ++ pins) hz hv z.notBase).run [] s5 _ H _ S5 (yes rfl a z.na)) ?_ fun _ _ y => y.elim
    have wipes : ∀ {σ6 : L2.St} {H6 : Hp} {s6 : Shared} {R : Shared → Prop} {p' : Pos}, Inv (X.suite a ((a, oe) :: (X.pn ++ pins))) [] σ6 H6 s6 → (∀ s7, Inv X pins (σ6.set _ none) H6 s7 → R s7) →
        wpAny (model X.prog X.w) X.A (do bindName X.env _ .none; unbindBehindTheSuite X.env _ p') (fun _ s7 => R s7) X.xe s6 := fun S6 q => gone_ok (S6.unsuite (ok s z)) hN hi hl q
    rintro (_ | _ | _ | u) s6 q
    · obtain ⟨σ6, H6, S6, q6⟩ := q
      exact wipes S6 fun s7 J => ⟨_, H6, J, q6⟩
    · obtain ⟨σ6, H6, S6, q6⟩ := q
      exact wipes S6 fun s7 J => ⟨_, H6, J, q6⟩
    · obtain ⟨σ6, H6, S6, q6⟩ := q
      exact wipes S6 fun s7 J => ⟨_, H6, J, q6⟩
    · obtain ⟨v6, σ6, H6, S6, r6, q6⟩ := q
      exact wipes S6 fun s7 J => ⟨v6, _, H6, J, r6, q6⟩
end

/-- try: body, then the clauses -/
theorem ps_try_hds {X : Cx} {body : List Stmt} {h₀ : ExceptHandler} {hds : List ExceptHandler} {l : List Clause} {pos : Pos} {tb : WX → TS} {Wout : WX}
    (hs : X.stack = X.env :: X.outer) (hf : X.env.frame = some X.env.locals) (hN : X.N.Nodup) (tk : L2N.Takes X Wout)
    (hb : ∀ (W : WX) (pn : List (Addr × Obj)) (xe : Value → Shared → Prop), L2N.Takes (X.tr pn xe) W → PassesOwn (model X.prog X.w) X.A X.env xe → PSs (X.tr pn xe) body (tb W))
    (hh : Hds X (h₀ :: hds) l) : PS X (.Try body (h₀ :: hds) [] [] pos) (fun D σ H => tb (wHds X.K Wout D l) D σ H) := by
  constructor
  intro pins s σ H D I h
  have ok := I.ok
  let xe : Value → Shared → Prop := fun e s1 => wpAny (model X.prog X.w) X.A (noteFrame e X.env) (fun _ s2 => wpAny (model X.prog X.w) X.A (setFlight e none) (fun _ s3 =>
    wpAny (model X.prog X.w) X.A (handleBy e X.env (h₀ :: hds)) (SP X pins D) X.xe s3) X.xe s2) X.xe s1
  have takes : L2N.Takes (X.tr (X.pn ++ pins) xe) (wHds X.K Wout D l) := by
    rintro u s' ⟨a, B, sI, pins', σ', H', cls, d, rfl, J', gr, up, sky, na, os, ag, w⟩
    have J : Inv X pins σ' H' sI := J'.ofTry ok
    rw [show (X.tr (X.pn ++ pins) xe).stack = X.env :: X.outer from hs] at sky
    refine L2N.Sky.land L2N.Zn.steady (by rw [ok.frames, hs]) hf sky fun h3 fl up3 => ?_
    exact handled_by hs hf hN tk hh _ ⟨J, gr, up.trans up3, os, ag, na, fl⟩ w
  refine wpAny_Try_except (wpAny_mono ((hb _ (X.pn ++ pins) xe takes PassesOwn.looking).run [] s σ H D (I.toTry _) h) ?_ fun _ _ y => y)
  rintro (_ | _ | _ | u) s1 q
  · obtain ⟨σ', H', J, q⟩ := q
    exact wpAny_execs_nil ⟨σ', H', J.ofTry ok, q⟩
  · obtain ⟨σ', H', J, q⟩ := q
    exact ⟨σ', H', J.ofTry ok, q⟩
  · obtain ⟨σ', H', J, q⟩ := q
    exact ⟨σ', H', J.ofTry ok, q⟩
  · obtain ⟨v, σ', H', J, r, q⟩ := q
    exact ⟨v, σ', H', J.ofTry ok, r, q⟩
end NvN
set_option Elab.async false
set_option linter.all false
set_option maxRecDepth 100000
set_option maxHeartbeats 4000000
/-! Within an except suite: a list comprehension over a range. -/
namespace Nv
open PySem PySem.Spec PyProof.Rows L2

/-- a block that bears the pins of its def -/
abbrev blkP (X : Cx) (s : Shared) (H : Hp) (scope : Scope) (ce : Env) (fp : List Addr) : Cx := { X.blk s H scope ce fp with pn := X.pn }
section
variable {X : Cx} {pins : List (Addr × Obj)} {σ : L2.St} {H : Hp} {s s' : Shared} {scope : Scope} {ce : Env} {fp : List Addr} {S0 : Shared} {H0 : Hp}
theorem Inv.bear (J : Inv (X.blk S0 H0 scope ce fp) [] σ H s) (pp : ∀ p ∈ X.pn, s.heap.get? p.1 = some p.2 ∧ H p.1 = none ∧ p.1 ≠ ce.locals ∧ p.1 ∉ frs X.stack ∧ ∀ v, p.2.data ≠ .cell v) : Inv (blkP X S0 H0 scope ce fp) [] σ H s := by
  have o := J.ok
  have o' : (blkP X S0 H0 scope ce fp).Ok := { mod := o.mod, kind := o.kind, glob := o.glob, blt := o.blt, above := o.above, inj := o.inj, has := o.has, cab := o.cab, hd := o.hd, frames := o.frames, stk := o.stk, exf := o.exf, bs := o.bs, bsz := o.bsz, noex := o.noex, exfs := o.exfs, funs := o.funs, frf := o.frf }
  exact { ok := o', os := J.os, bare := J.bare, base := J.base, loc := J.loc, cell := J.cell, free := J.free, freeC := J.freeC, pin := fun p hp => pp p (by simpa using hp), hok := J.hok, len := J.len }
end

theorem pe_lcHot {X : Cx} {elt tg iter : Expr} {scope : Scope} {own : List (Str × Nat)} {pos : Pos} {wi : TI} {g : TG} {te : TE} (hot : L2H.HotC X) (hN : X.N.Nodup) (hi : L2H.PIH X tg iter wi) (bk : BlkOk X.N X.env.scope scope own)
    (hg : ∀ (s : Shared) (H : Hp) (C : Addr) (cl : List (Str × Addr)) (fp : List Addr), PG (blkP X s H scope (compEnvC scope cl C X.env) fp) tg g)
    (he : ∀ (s : Shared) (H : Hp) (C : Addr) (cl : List (Str × Addr)) (fp : List Addr), PE (blkP X s H scope (compEnvC scope cl C X.env) fp) elt te) (hs : ∀ x, foldedSetIterable iter X.env x = pure x := by intro _; rfl) :
    PE X (.ListComp elt [⟨tg, iter, [], 0⟩] scope pos) (tLc wi g tYes te (own.map (·.2))) := by
  constructor
  intro pins s σ H Q I h
  rw [eval_ListComp]
  have caps : ∀ y ∈ scope.names, y.2 = .free → ∃ c, X.env.cells.lookup y.1 = some c := by
    intro y hy e
    rcases bk.free y hy e with z | z
    · exact I.ok.has _ (.inl z)
    · exact I.ok.has _ (.inr z)
  refine wpAny_comprehension_free rfl hs (closure_ok caps) bk.kind (fun y hy e => by rw [bk.uniq y hy, e]) (thn (hi.run pins s σ H _ I h) fun _ s1 hx => thn hx ?_)
  rintro itv s2 ⟨it, fp, tn, J, H2, rfl, I2, T, st2, f2, q⟩
  refine wpAny_newObj_type (newEnv_comp ?_) (by show 0 ≤ sizeLine; decide)
  -- the new list stands at D, the block's names at C
  obtain ⟨D, hD⟩ : ∃ D, D = s2.heap.objs.size := ⟨_, rfl⟩
  rw [← hD]
  have nD : H2 D = none := I2.hok.fresh (Nat.le_of_eq hD.symm)
  obtain ⟨W, ⟨m0, w0⟩, turn⟩ := q D nD
  obtain ⟨s3, hs3⟩ : ∃ s3 : Shared, s3 = { s2 with heap := s2.heap.push { cls := .type "list", data := .seq ([] : List Value).toArray } } := ⟨_, rfl⟩
  rw [← hs3]
  have k23 : ∀ b o, s2.heap.get? b = some o → s3.heap.get? b = some o := fun b o e => by rw [hs3]; exact Heap.get?_push_of_some _ e
  have I3 : Inv X pins σ (upd H2 D (.lst [])) s3 := by
    rw [hs3]
    refine I2.laid (t' := s2.toks) (fun b o e => Heap.get?_push_of_some _ e) (Nat.le_of_eq hD.symm) ⟨Nat.zero_le _, [], 0, .nil, ?_⟩
    rw [hD]
    exact Heap.get?_push_size _ rfl
  have old : ∀ b ∈ fp, b < s2.heap.objs.size := fun b hb => let ⟨_, e, _⟩ := T.obj _ _ st2 b hb; Heap.lt_size e
  have f3 : ∀ b ∈ fp, FpOk X pins (upd H2 D (.lst [])) b ∧ b < s3.heap.objs.size := by
    intro b hb
    obtain ⟨g0, g1⟩ := f2 b hb
    refine ⟨⟨?_, g1⟩, ?_⟩
    · rw [upd_ne (by rw [hD]; exact Nat.ne_of_lt (old b hb))]
      exact g0
    · rw [hs3]
      show b < (s2.heap.push _).objs.size
      rw [Heap.size_push]
      exact Nat.lt_succ_of_lt (old b hb)
  have st3 : tn 0 s3.heap := T.keep _ _ _ st2 fun b _ o e => k23 b o e
  obtain ⟨H3, hH3⟩ : ∃ H3 : Hp, H3 = upd H2 D (.lst []) := ⟨_, rfl⟩
  rw [← hH3] at I3 f3 w0
  have I4 := block_start I3 bk hN f3
  have pg := hg s3 H3 s3.heap.objs.size (cellsFrom (s3.heap.objs.size + 1) scope.names (cloFrom X.env.cells scope.names [])) fp
  have pe := he s3 H3 s3.heap.objs.size (cellsFrom (s3.heap.objs.size + 1) scope.names (cloFrom X.env.cells scope.names [])) fp
  show codeAny _ _ (.compStart (.ListComp elt [⟨tg, iter, [], 0⟩] scope pos) 0 (.ref it) (.ref D) (compEnvC scope (cellsFrom (s3.heap.objs.size + 1) scope.names (cloFrom X.env.cells scope.names [])) s3.heap.objs.size X.env))
    (compPost (model X.prog X.w) X.A X.xe none (EP X pins σ Q) (.ref D) s3.heap.objs.size) { s3 with heap := pushCells (s3.heap.push { cls := .type "dict", data := .dict #[] }) scope.names }
  obtain ⟨ce, hce⟩ : ∃ ce, ce = compEnvC scope (cellsFrom (s3.heap.objs.size + 1) scope.names (cloFrom X.env.cells scope.names [])) s3.heap.objs.size X.env := ⟨_, rfl⟩
  rw [← hce] at I4 pg pe ⊢
  have cL : ce.locals = s3.heap.objs.size := by rw [hce]; rfl
  obtain ⟨s4, hs4⟩ : ∃ s4 : Shared, s4 = { s3 with heap := pushCells (s3.heap.push { cls := .type "dict", data := .dict #[] }) scope.names } := ⟨_, rfl⟩
  rw [← hs4] at I4 ⊢
  have k34 : ∀ b o, s3.heap.get? b = some o → s4.heap.get? b = some o := fun b o e => by rw [hs4]; exact pushCells_keeps _ _ _ _ (Heap.get?_push_of_some _ e)
  have I5 : Inv (blkP X s3 H3 scope ce fp) [] (wipe σ (own.map (·.2))) H3 s4 := by
    refine Inv.bear I4 fun p hp => ?_
    obtain ⟨e1, e2, e3, e4, e5⟩ := I3.pin p (List.mem_append_left _ hp)
    refine ⟨k34 _ _ e1, e2, ?_, fun hm => ?_, e5⟩
    · rw [cL]
      exact Nat.ne_of_lt (Heap.lt_size e1)
    · rcases List.mem_cons.mp (I3.stkSub _ hm) with z | z
      · exact e3 z
      · exact e4 z
  have hotB : L2H.HotC (blkP X s3 H3 scope ce fp) := hot
  have st4 : tn 0 s4.heap := T.keep _ _ _ st3 fun b _ o e => k34 b o e
  have steady : ∀ {σ' : L2.St} {H' : Hp} {s' : Shared}, Inv (blkP X s3 H3 scope ce fp) [] σ' H' s' → (∀ b ∈ fp, H' b = none) → ∀ b ∈ fp, FpOk (blkP X s3 H3 scope ce fp) [] H' b := by
    intro σ' H' s' Z hn b hb
    refine ⟨hn b hb, (Z.ok.exf b hb).1, Z.ok.exfs b hb, .inl hb, fun x c e => (Z.ok.exf b hb).2 x c e, fun p hp => ?_⟩
    obtain ⟨_, _, _, _, _, last⟩ := (f3 b hb).1
    exact last p (List.mem_append_left _ (by simpa using hp))
  have loop : codeAny (model X.prog X.w) X.A (.compLoop (.ListComp elt [⟨tg, iter, [], 0⟩] scope pos) 0 (.ref it) (.ref D) ce) (compPost (model X.prog X.w) X.A X.xe none (EP X pins σ Q) (.ref D) s3.heap.objs.size) s4 := by
    refine compLoop_any (fun n z => ∃ i H', Inv (blkP X s3 H3 scope ce fp) [] (wipe σ (own.map (·.2))) H' z ∧ tn i z.heap ∧ (∀ b ∈ fp, H' b = none) ∧ W i n H') ?_ m0 ⟨0, H3, I5, st4, fun b hb => (f3 b hb).1.1, w0⟩
    rintro n s5 ⟨i, H5, J5, st5, n5, w5⟩
    rcases turn i n H5 w5 with ⟨stop, ends⟩ | ⟨go, Nx, hNx, step⟩
    · refine thnF (T.done (blkP X s3 H3 scope ce fp) rfl rfl rfl hotB i [] s5 _ H5 (fun _ _ => False) J5 (steady J5 n5) st5 stop) ?_
      rintro r s6 ⟨rfl, J6⟩
      have J7 : Inv X pins σ H5 s6 := I3.call' (ch := fp) J6.os J6.base J6.hok J6.bare fun b hb => by
        obtain ⟨_, z1, _, z3, z4, z5⟩ := (f3 b hb).1
        exact ⟨z3, z1, z4, z5⟩
      have fC : H5 s3.heap.objs.size = none := by
        have z : H5 ce.locals = none := J6.free
        rwa [cL] at z
      obtain ⟨m, hn, _⟩ := J6.loc
      have hn' : s6.heap.Ns ce.locals m := hn
      rw [cL] at hn'
      obtain ⟨y0, y1, y2, y3, y4, y5⟩ := I3.fpOk (H' := H5) (Nat.le_refl _) fC
      exact ⟨m, hn', fun h'' sb => ⟨.ref D, H5, J7.turned (t' := s6.toks) (fun b o hb e => (sb.2 b hb).trans e) y0 y1 y3 y4 y5, rfl, ends⟩⟩
    · refine thnF (T.item (blkP X s3 H3 scope ce fp) rfl rfl rfl hotB i [] s5 _ H5 (fun _ _ => False) J5 (steady J5 n5) st5 go) ?_
      rintro r s6 ⟨u, rfl, h6⟩
      refine thnF h6 ?_
      rintro _ s7 ⟨x, H7, J7, r7, y7, st7, n7⟩
      have P7 := J7.pinned (steady J7 n7) (T.obj _ _ st7)
      refine thnF (pg.run _ s7 _ H7 x u _ P7 r7 (step x H7 y7)) ?_
      rintro _ s8 ⟨σ8, H8, J8, same8, q8⟩
      refine thnF (wpAny_tests_nil (Q := fun (b : Bool) z => b = true ∧ z = s8) ⟨rfl, rfl⟩) ?_
      rintro b s9 ⟨rfl, rfl⟩
      have q9 : te σ8 H8 _ := q8
      rw [if_pos rfl]
      refine thnF (pe.run _ _ σ8 H8 _ J8 q9) ?_
      rintro z s10 ⟨yv, H10, J10, r10, acc, hD10, hz10, nx⟩
      refine app_ok (X := blkP X s3 H3 scope ce fp) J10 hD10 hz10 r10 fun s11 J11 => ?_
      obtain ⟨m', hm, w'⟩ := hNx _ nx
      have pinB : ∀ b ∈ fp, ∀ o, s7.heap.get? b = some o → s11.heap.get? b = some o ∧ (upd H10 D (.lst (acc ++ [yv]))) b = none := fun b hb o e =>
        let z := J11.pin (b, o) (List.mem_append_right _ (List.mem_append_right _ (mem_pinsAt hb e)))
        ⟨z.1, z.2.1⟩
      refine ⟨m', hm, i + 1, _, (J11.unpinned (pins := [])).weak (by rw [← same8, wipe_length]) (fun j v e => ?_), T.keep _ _ _ st7 fun b hb o e => (pinB b hb o e).1, fun b hb => ?_, w'⟩
      · rw [← same8] at e
        exact (wipe_some e).1
      · obtain ⟨o, e, _⟩ := T.obj _ _ st7 b hb
        exact (pinB b hb o e).2
  exact codeAny_compStart_list loop (T.self X.A 0 _ _ _ st4 loop)
end Nv
set_option Elab.async false
set_option linter.all false
set_option maxRecDepth 100000
set_option maxHeartbeats 4000000
/-! A def that may be called anywhere, within an except suite too; there its argument may be the exception that is handled. -/
namespace Nv
open PySem PySem.Spec PyProof.Rows L2

/-- the context of such a def's body -/
abbrev cxA (P : Program) (w : World) (K : PySem.W.Frag) (mg : Str → Option Value) (base : Heap) (N : List Str) (qual : Str) (scope : Scope) (f : Addr) (cd : Value) (A : Around) (outer : List Env) (s : Shared) (H : Hp) : Cx :=
  { cxOf CX0 P w K mg base N qual scope f cd A outer s H E0 with calm := false, xe := fun _ _ => False }
structure FnA (P : Program) (w : World) (K : PySem.W.Frag) (mg : Str → Option Value) (base : Heap) (k : Nat) (f : Addr) (fd : FuncData) (ps : List Str) (sp : Sp) : Prop where
  many : ∀ vs H Q E, sp vs H Q E → vs.length = ps.length
  does : ∀ (A : Around) (outer : List Env) (s : Shared) (H : Hp) (ar : Args) (us : List Value) (vs : List V) (Q : VK),
    L2H.RoomH k A → Env0 P w K mg base A outer s H → BindsTo s fd ar (ps.zip us) → Vals vs us → sp vs H Q E0 →
    codeAny (model P w) A (.call (.ref f) ar) (CR CX0 outer P w H s Q E0) s

section
variable {P : Program} {w : World} {K : PySem.W.Frag} {mg : Str → Option Value} {base : Heap}
theorem FnA.made {x qual : Str} {st : Stmt} {f : Addr} {fd : FuncData} {N ps : List Str} {k : Nat} {sp : Sp} (F : Fun K x qual st f fd) (S : FnScope N ps (defScope st))
    (many : ∀ vs H Q E, sp vs H Q E → vs.length = ps.length)
    (body : ∀ (cdv : Value) (A : Around) (outer : List Env) (s : Shared) (H : Hp) (vs : List V) (Q : VK),
      L2H.RoomH k (A.deeper (envOfC qual (defScope st) s.heap.objs.size f cdv)) → sp vs H Q E0 →
      ∃ t, PSs (cxA P w K mg base N qual (defScope st) f cdv A outer s H) (defBody st) t ∧ t { nx := fun _ H' => Q .non H', rt := Q } (start N vs) H) :
    FnA P w K mg base (k + 1) f fd ps sp := by
  obtain ⟨oc, od, kV, doc, pm, an, cdv, ct, osl, rfl, lk, hcd⟩ := F.ex
  constructor
  · exact many
  intro A outer s H ar us vs Q room env hb rel want
  obtain ⟨t, der, hq⟩ := body cdv A outer s H vs Q (room.deeper _) want
  have inK : K.In s.heap := env.mod.kin.keeps fun b o z => (env.bs b o z).1
  have nolim : s.heap.NoLimit := env.mod.nolimit.keeps fun b o z => (env.bs b o z).1
  refine Att.call_fn inK nolim lk hcd room.depth hb (all_kinds S us) (fun s1 ic => ?_) S.co S.gen S.kind
  -- the state at the entry, read with nothing handled; then as it is
  have env' : Env0 P w K mg base { A with handled := none } outer s H := { frames := env.frames, mod := env.mod, bs := env.bs, bsz := env.bsz, funs := env.funs, frf := env.frf, hok := env.hok, bare := env.bare }
  have J := inv_start (CX := CX0) (E := E0) (N := N) S rfl env' (many _ _ _ _ want) rel ic
  have o := J.ok
  have o' : (cxA P w K mg base N qual (defScope st) f cdv A outer s H).Ok := { mod := o.mod, kind := o.kind, glob := o.glob, blt := o.blt, above := o.above, inj := o.inj, has := o.has, cab := o.cab, hd := fun z => Bool.noConfusion (show false = true from z), frames := o.frames, stk := o.stk, exf := o.exf, bs := o.bs, bsz := o.bsz, noex := o.noex, exfs := o.exfs, funs := o.funs, frf := o.frf }
  have J' : Inv (cxA P w K mg base N qual (defScope st) f cdv A outer s H) [] (start N vs) H s1 := { ok := o', os := J.os, bare := J.bare, base := J.base, loc := J.loc, cell := J.cell, free := J.free, freeC := J.freeC, pin := J.pin, hok := J.hok, len := J.len }
  refine wpAny_mono (der.run [] s1 _ H _ J' hq) ?_ fun _ _ z => z.elim
  rintro (_ | _ | _ | u) s' z
  · obtain ⟨σ', H', Z, q⟩ := z
    exact ⟨.non, H', Z.os, Z.bare, Z.base, Z.hok, rfl, q⟩
  · obtain ⟨_, _, _, q⟩ := z
    exact q.elim
  · obtain ⟨_, _, _, q⟩ := z
    exact q.elim
  · obtain ⟨v, σ', H', Z, r, q⟩ := z
    exact ⟨v, H', Z.os, Z.bare, Z.base, Z.hok, r, q⟩
end

section
variable {X : Cx} {k : Nat} {f : Addr} {fd : FuncData} {y : Str} {sp : Sp} {x : Str} {p pos : Pos} {e : Expr} {te : TE}
def oneA (R : V → Hp → Prop) : List V → Hp → Prop
  | [v], H => R v H
  | _, _ => False
theorem oneA_of {R : V → Hp → Prop} {vs : List V} {H : Hp} (h : oneA R vs H) : ∃ v, vs = [v] ∧ R v H := by
  rcases vs with _ | ⟨v, _ | ⟨_, _⟩⟩
  · exact h.elim
  · exact ⟨v, rfl, h⟩
  · exact h.elim
/-- x(e) -/
theorem pe_callA (F : FnA X.prog X.w X.K X.mg X.base k f fd [y] sp) (hr : L2H.RoomH k X.A) (hg : Gl X x) (hm : X.mg x = some (.ref f)) (hk : PySem.W.keepIn X.K (.ref f) = true) (hb : Binds X.K fd [y] []) (he : PE X e te)
    (hs : starEach (e :: []) X.env = (false, eval e X.env) :: starEach [] X.env := by rfl) (hpl : (backTo pos (starEach [] X.env)).any (·.1) = false := by rfl) (hdb : (x == ("__debug__" : Str)) = false := by decide) :
    PE X (.Call (.Name x p) [e] [] pos) (fun σ H Q => te σ H fun v H1 => sp [v] H1 Q E0) := by
  constructor
  intro pins s σ H Q I h
  refine wpAny_Call_Name_kw (ld_glob I hg hm (PySem.W.callWith_K (h₀ := X.base) I.ok.mod.kin hk (thn ((pa_cons he pa_nil hs).run pos pins s σ H (oneA fun v H1 => sp [v] H1 Q E0) I h) ?_) hs hpl) hdb)
  rintro us s1 ⟨vs, H1, I1, r, q0⟩
  obtain ⟨v, rfl, q⟩ := oneA_of q0
  have b := hb s1 us I1.kIn (by rw [List.append_nil, ← r.length]; rfl)
  rw [List.append_nil] at b
  refine ⟨I1.kIn, wpAny_call (codeAny_mono (F.does X.A X.stack s1 H1 ⟨us, []⟩ us [v] Q hr I1.env0 b r q) ?_)⟩
  rintro (z | (_ | _ | _ | u)) s2 hz
  · exact hz.elim
  · exact hz.elim
  · exact hz.elim
  · exact hz.elim
  · exact I1.after hz
/-- the very object at a -/
def pinO (a : Addr) (oe : Obj) : HO := .ext fun h => h.get? a = some oe
theorem pinO_ne {a : Addr} {oe : Obj} : (∀ xs, pinO a oe ≠ .tup xs) ∧ (∀ o u, pinO a oe ≠ .frz o u) ∧ (∀ ps, pinO a oe ≠ .tbl ps) ∧ ∀ y, pinO a oe ≠ .own y := by
  refine ⟨fun xs z => ?_, fun o u z => ?_, fun ps z => ?_, fun y z => ?_⟩
  · exact nomatch (show HO.ext _ = HO.tup xs from z)
  · exact nomatch (show HO.ext _ = HO.frz o u from z)
  · exact nomatch (show HO.ext _ = HO.tbl ps from z)
  · exact nomatch (show HO.ext _ = HO.own y from z)
/-- x(n), n the exception that is handled -/
theorem pe_callHot {a : Addr} {oe : Obj} {pn : List (Addr × Obj)} (nb : X.base.get? a = none) (F : FnA X.prog X.w X.K X.mg X.base k f fd [y] sp) (hr : L2H.RoomH k (X.A.mark (some (.ref a)))) (hg : Gl X x) (hm : X.mg x = some (.ref f)) (hk : PySem.W.keepIn X.K (.ref f) = true)
    (hb : Binds X.K fd [y] []) (he : PE (X.suite a ((a, oe) :: pn)) e te)
    (hs : starEach (e :: []) X.env = (false, eval e X.env) :: starEach [] X.env := by rfl) (hpl : (backTo pos (starEach [] X.env)).any (·.1) = false := by rfl) (hdb : (x == ("__debug__" : Str)) = false := by decide) :
    PE (X.suite a ((a, oe) :: pn)) (.Call (.Name x p) [e] [] pos) (fun σ H Q => te σ H fun v H1 => v = .ref a ∧ (H1 a = none → sp [.ref a] (upd H1 a (pinO a oe)) (fun r H2 => H2 a = some (pinO a oe) ∧ Q r (del H2 a)) E0)) := by
  constructor
  intro pins s σ H Q I h
  refine wpAny_Call_Name_kw (ld_glob I hg hm (PySem.W.callWith_K (h₀ := X.base) I.ok.mod.kin hk (thn ((pa_cons he pa_nil hs).run pos pins s σ H (oneA fun v H1 => v = .ref a ∧ (H1 a = none → sp [.ref a] (upd H1 a (pinO a oe)) (fun r H2 => H2 a = some (pinO a oe) ∧ Q r (del H2 a)) E0)) I h) ?_) hs hpl) hdb)
  rintro us s1 ⟨vs, H1, I1, r, q0⟩
  obtain ⟨v, rfl, rfl, q⟩ := oneA_of q0
  obtain ⟨ha, na, nL, nF, nc⟩ := I1.pin (a, oe) (List.mem_append_left _ List.mem_cons_self)
  have q := q na
  have b := hb s1 us I1.kIn (by rw [List.append_nil, ← r.length]; rfl)
  rw [List.append_nil] at b
  obtain ⟨n1, n2, n3, n4⟩ := @pinO_ne a oe
  have apart : ∀ {c : Addr} {o : HO}, H1 c = some o → c ≠ a := fun z e => by
    rw [e, na] at z
    cases z
  have up : ∀ {c : Addr} {o : HO}, H1 c = some o → upd H1 a (pinO a oe) c = some o := fun z => by rw [upd_ne (apart z)]; exact z
  have fr : a ∉ frs X.stack := fun hm => (List.mem_cons.mp (I1.stkSub a hm)).elim nL nF
  have ok2 : HOk X.prog X.w (upd H1 a (pinO a oe)) s1.heap := by
    intro c u z
    by_cases hc : c = a
    · subst hc
      rw [upd_same] at z
      cases z
      exact ⟨ha, ⟨oe, ha⟩, fun _ _ y k => k _ y⟩
    · rw [upd_ne hc] at z
      exact (I1.hok c u z).stay (fun _ _ _ y => y) (fun _ y => up y) fun _ _ y => up y
  have e0 := I1.env0
  have env : Env0 X.prog X.w X.K X.mg X.base (X.A.mark (some (.ref a))) X.stack s1 (upd H1 a (pinO a oe)) := {
    frames := e0.frames, mod := e0.mod, bsz := e0.bsz, funs := e0.funs, hok := ok2, bare := e0.bare
    bs := fun c o z => ⟨(e0.bs c o z).1, by
      have ne : c ≠ a := fun y => by rw [y, nb] at z; cases z
      rw [upd_ne ne]
      exact (e0.bs c o z).2⟩
    frf := fun c hc => by
      have ne : c ≠ a := fun e => fr (by rw [← e]; exact hc)
      rw [upd_ne ne]
      exact e0.frf c hc }
  refine ⟨I1.kIn, wpAny_call (codeAny_mono (F.does (X.A.mark (some (.ref a))) X.stack s1 _ ⟨us, []⟩ us [.ref a] _ hr env b r q) ?_)⟩
  rintro (z | (_ | _ | _ | u)) s2 hz
  · exact hz.elim
  · exact hz.elim
  · exact hz.elim
  · exact hz.elim
  obtain ⟨v, H2, os, bare, un, hok, rv, hp, q2⟩ := hz
  have ha2 : s2.heap.get? a = some oe := (hok a _ hp).1
  have dl : ∀ {c : Addr} {o : HO}, c ≠ a → H2 c = some o → del H2 a c = some o := fun n z => by rw [del_ne n]; exact z
  have U : Un (frs X.stack) [] H1 (del H2 a) s1.heap s2.heap := {
    keep := fun c o z n nf nx => by
      by_cases hc : c = a
      · subst hc
        rw [ha] at z
        cases z
        exact ha2
      · exact un.keep c o z (by rw [upd_ne hc]; exact n) nf nx
    slot := fun c o z n hf nx => by
      have hc : c ≠ a := fun e => fr (e ▸ hf)
      exact un.slot c o z (by rw [upd_ne hc]; exact n) hf nx
    free := fun c o z n nx => by
      by_cases hc : c = a
      · rw [hc]
        exact del_same
      · rw [del_ne hc]
        exact un.free c o z (by rw [upd_ne hc]; exact n) nx
    there := un.there
    tups := fun c xs z => dl (apart z) (un.tups c xs (up z))
    frzs := fun c o u z => dl (apart z) (un.frzs c o u (up z))
    tbls := fun c ps z => let ⟨m, e⟩ := un.tbls c ps (up z); ⟨m, dl (apart z) e⟩ }
  have ok3 : HOk X.prog X.w (del H2 a) s2.heap := by
    intro c u z
    have hc : c ≠ a := fun e => by
      rw [e, del_same] at z
      cases z
    rw [del_ne hc] at z
    have other : ∀ {d : Addr} {o : HO}, H2 d = some o → pinO a oe ≠ o → d ≠ a := fun {d o} z1 n e => by
      rw [e, hp] at z1
      exact n (Option.some.inj z1)
    exact (hok c u z).stay (fun _ _ _ y => y) (fun d y => dl (other y (n4 c)) y) fun d xs y => dl (other y (n1 xs)) y
  exact ⟨v, del H2 a, I1.call' (ch := []) os U ok3 bare (fun _ z => nomatch z), rv, q2⟩
end
end Nv
set_option Elab.async false
set_option linter.all false
set_option maxRecDepth 100000
set_option maxHeartbeats 4000000
/-! What the written part says of an own exception class, as one look. -/
namespace Nv
open PySem PySem.Spec PyProof.Rows L2

def shapeB (K : PySem.W.Frag) (C : Addr) : Bool := match K.lookup C with
  | some ⟨.type "type", _, .cls cd, sl⟩ => (match cd.mro, sl.toList with
    | .ref D :: bm, [_, _, _, _, some (.builtin n), _] => D == C && (n == "ValueError.__new__" && (!cd.hasDel && (PySem.HandSPX.refsVE bm && cd.hasDict)))
    | _, _ => false)
  | _ => false
theorem shape_of {K : PySem.W.Frag} {C : Addr} (z : shapeB K C = true) :
    ∃ nm q N bs bm sn sub ab col dd k0 k1 k2 k3 k5, K.lookup C = some (excClassObj nm q C N bs bm true sn sub ab col dd k0 k1 k2 k3 k5 "ValueError.__new__") ∧ PySem.HandSPX.refsVE bm = true := by
  unfold shapeB at z
  split at z
  · rename_i dd cd sl ho
    split at z
    · rename_i D bm k0 k1 k2 k3 n k5 hm hs
      rw [Bool.and_eq_true, Bool.and_eq_true, Bool.and_eq_true, Bool.and_eq_true, beq_iff_eq, beq_iff_eq, Bool.not_eq_true'] at z
      obtain ⟨rfl, rfl, hdel, hb, hh⟩ := z
      obtain ⟨nm, bs, mro, ns, qn, hd, sn, sub, ab, col, del⟩ := cd
      dsimp only at hm hdel hh
      subst hm hdel hh
      obtain ⟨sl⟩ := sl
      simp only at hs
      subst hs
      exact ⟨nm, qn, ns, bs, bm, sn, sub, ab, col, dd, k0, k1, k2, k3, k5, ho, hb⟩
    · cases z
  · cases z
def nameB (r : Option PySem.W.CFound) (C : Addr) : Bool := match r with
  | some (.get g a o t) => g == .builtin "getset_descriptor.__get__" && (a == .builtin "type.__name__" && (o == .ref C && t == .type "type"))
  | _ => false
theorem nameB_of {r : Option PySem.W.CFound} {C : Addr} (z : nameB r C = true) : r = some (.get (.builtin "getset_descriptor.__get__") (.builtin "type.__name__") (.ref C) (.type "type")) := by
  unfold nameB at z
  split at z
  · simp only [Bool.and_eq_true, beq_iff_eq] at z
    obtain ⟨rfl, rfl, rfl, rfl⟩ := z
    rfl
  · cases z
/-- all that is asked of the class at C, its __init__ at fI -/
def classB (K : PySem.W.Frag) (C fI : Addr) : Bool :=
  shapeB K C && (PySem.W.findIn K (.ref C) "__setattr__" == some (some (.builtin "object.__setattr__")) && (PySem.W.subIn K (.ref C) (.type "BaseException") == some true && (PySem.W.typeIn K (.ref C) == some (.type "type") &&
  (PySem.W.keepIn K (.ref C) && (PySem.W.findIn K (.ref C) "__init__" == some (some (.ref fI)) && (PySem.W.findIn K (.ref C) "value" == some none && ((PySem.W.clsIn K C).isSome &&
  (PySem.W.findIn K (.ref C) "__getattribute__" == some (some (.builtin "BaseException.__getattribute__")) && (PySem.W.findIn K (.ref C) "__getattr__" == some none && (PySem.W.findIn K (.ref C) "__class__" == some (some (.builtin "object.__class__")) &&
  (PySem.W.mroIn K C (.type "object") == some true && (PySem.W.hasDictIn K C && (PySem.W.findIn K (.ref C) "name" == some none && (PySem.W.readsIn K C (.type "type") &&
  ((PySem.W.nameIn K C).isSome && nameB (PySem.W.findCls K (.ref C) (.type "type") "__name__") C)))))))))))))))
def metaB (K : PySem.W.Frag) (fI : Addr) : Bool := PySem.W.typeIn K (.ref fI) == some (.type "function") && (PySem.W.specialIn K (.builtin "object.__class__") "__get__" == some (some (.builtin "getset_descriptor.__get__")) && PySem.W.takesIn K (.builtin "object.__class__") == some true)
structure Xc (K : PySem.W.Frag) (C fI : Addr) : Prop where
  mx : MkX K C fI
  cl : XCls K C
  fl : XfC K C
theorem class_of {K : PySem.W.Frag} {C fI : Addr} (z : classB K C fI = true) (m : metaB K fI = true) : Xc K C fI := by
  unfold classB at z
  unfold metaB at m
  simp only [Bool.and_eq_true, beq_iff_eq] at z m
  obtain ⟨z1, z2, z3, z4, z5, z6, z7, z8, z9, z10, z11, z12, z13, z14, z15, z16, z17⟩ := z
  obtain ⟨m1, m2, m3⟩ := m
  exact ⟨⟨⟨shape_of z1, z2, z3, z4, z5⟩, z6, m1, z7, z14, ⟨z9, z10, z3, z8, z11, m2, m3, z12, z15, z4, nameB_of z17, Option.isSome_iff_exists.mp z16⟩⟩, ⟨z8, z9, z10, z3, z11, m2, m3, z12⟩, ⟨z9, z10, z3, z13⟩⟩
/-- the address of a class of the module -/
def addrIn (K : PySem.W.Frag) (n : Str) : Addr := match PySem.W.nsIn K mainGlobals n with
  | some (some (.ref a)) => a
  | _ => 0
def namedB (K : PySem.W.Frag) (n : Str) : Bool := PySem.W.nsIn K mainGlobals n == some (some (.ref (addrIn K n)))
theorem named_of {K : PySem.W.Frag} {h : Heap} {mg : Str → Option Value} {n : Str} (X : K.In h) (G : h.Ns mainGlobals mg) (z : namedB K n = true) : mg n = some (.ref (addrIn K n)) := PySem.W.mg_of X G (beq_iff_eq.mp z)
end Nv
set_option Elab.async false
set_option linter.all false
set_option maxRecDepth 100000
set_option maxHeartbeats 4000000
/-! raise C(e) where nothing is handled; readings that hang on what a suite holds. -/
namespace Nv
open PySem PySem.Spec PyProof.Rows L2

theorem PSs.all {X : Cx} {ι : Type} {p : ι → Prop} {t : ι → TS} {st : List Stmt} (i : ι) (hi : p i) (h : PSs X st (t i)) : PSs X st (fun D σ H => ∀ i, p i → t i D σ H) :=
  ⟨fun pins s σ H D I q => h.run pins s σ H D I (q i hi)⟩
theorem takesN0 {X : Cx} : L2N.Takes X (fun _ _ _ _ => False) := fun _ _ ⟨_, _, _, _, _, _, _, _, _, _, _, _, _, _, _, _, w⟩ => w.elim

section
variable {X : Cx} {C fI : Addr} {k : Nat} {fd : FuncData} {x : Str} {p pos : Pos} {e : Expr} {te : TE}
def xdQ (C : Addr) (Q : XK) (v : V) (H1 : Hp) : Prop := ∀ dx n, H1 dx = none → Q (.ref C) (some dx) (upd H1 dx (.xd (xf n v)))
theorem pmk_mkx (T : MkX X.K C fI) (F1 : FnOk X.prog X.w X.K X.mg X.base CX0 k fI fd ["self", "value"] (spIni X.K)) (hr : Room (k + 1) X.A) (hb : Binds X.K fd ["self", "value"] []) (hg : Gl X x) (hm : X.mg x = some (.ref C)) (he : PE X e te)
    (hs : starEach (e :: []) X.env = (false, eval e X.env) :: starEach [] X.env := by rfl) (hpl : (backTo pos (starEach [] X.env)).any (·.1) = false := by rfl) (hdb : (x == ("__debug__" : Str)) = false := by decide) :
    L2N.PMk X (.Call (.Name x p) [e] [] pos) (fun σ H Q => te σ H fun v H1 => xdQ C Q v H1) := by
  intro pins s σ H Q I h
  obtain ⟨nm, q, N, bs, bm, sn, sub, ab, col, dd, k0, k1, k2, k3, k5, hC, hbm⟩ := T.ox.cls
  refine wpAny_Call_Name_kw (ld_glob I hg hm (PySem.W.callWith_K (h₀ := X.base) I.ok.mod.kin T.ox.kC (thn ((pa_cons he pa_nil hs).run pos pins s σ H (oneA fun v H1 => xdQ C Q v H1) I h) ?_) hs hpl) hdb)
  rintro us ⟨hp, g, dr, tk, os⟩ ⟨vs, H1, I1, r1, q1⟩
  obtain ⟨v, rfl, q2⟩ := oneA_of q1
  refine ⟨I1.kIn, ?_⟩
  cases r1 with
  | cons rv rr =>
    cases rr
    rename_i u
    obtain ⟨a, ha⟩ : ∃ a, a = hp.objs.size + 1 := ⟨_, rfl⟩
    have h2 : ((hp.push (PySem.W.kdv_tup [u])).push (PySem.HandSPX.excO C hp.objs.size)).get? a = some (PySem.HandSPX.excO C hp.objs.size) := by rw [ha]; heap_get
    have new : hp.objs.size ≤ a := by rw [ha]; exact Nat.le_succ _
    have kk : ∀ b o, hp.get? b = some o → ((hp.push (PySem.W.kdv_tup [u])).push (PySem.HandSPX.excO C hp.objs.size)).get? b = some o := fun _ _ z => Heap.get?_push_of_some _ (Heap.get?_push_of_some _ z)
    have J := I1.laid (t' := tk) (a := a) (o := exo a C none) (h' := (hp.push (PySem.W.kdv_tup [u])).push (PySem.HandSPX.excO C hp.objs.size)) kk new (exo_ok h2)
    have nH : H1 a = none := I1.hok.fresh new
    have want : spIni X.K [.ref a, v] (upd H1 a (exo a C none)) (fun z H2 => z = .non ∧ ∃ dx n, H1 dx = none ∧ dx ≠ a ∧ H2 = upd (upd (upd H1 a (exo a C none)) dx (exd dx (xf n v))) a (exo a C (some dx))) E0 := by
      refine ⟨_, C, v, rfl, T.ox, T.nov, T.nof, T.nmc, upd_same, fun dx n nd ne => ⟨rfl, dx, n, ?_, ne, rfl⟩⟩
      rw [upd_ne ne] at nd
      exact nd
    refine wpAny_call (PySem.HandSPX.call_own F.excBase_ValueError (fun Y => PySem.HandSPX.refsVE_contains Y bm hbm) (I1.kIn _ _ hC) (PySem.W.looks_findIn I1.kIn T.ini) (fun self => PySem.W.bind_fn I1.kIn self T.tyI) (by show 1 ≤ sizeLine; decide) ?_)
    rw [← ha]
    refine codeAny_mono (F1.run _ X.stack _ _ ⟨[.ref a, u], []⟩ [.ref a, u] [.ref a, v] _ E0 (hr.make C [u] []) (J.env0.make C [u] []) (hb _ [.ref a, u] J.kIn rfl) (.cons rfl (.cons rv .nil)) want) ?_
    rintro (z | (_ | _ | _ | r)) s' hz
    · exact hz.elim
    · exact hz.elim
    · exact hz.elim
    · exact hz.elim
    · obtain ⟨v', H2, os2, bare2, un2, hok2, rv', ev, dx, n, nd, ne, eH⟩ := hz
      subst ev
      obtain ⟨hh, g2, d2, t2, os'⟩ := s'
      have ea : H2 a = some (exo a C (some dx)) := by rw [eH]; exact upd_same
      have ed : H2 dx = some (exd dx (xf n v)) := by rw [eH, upd_ne ne]; exact upd_same
      obtain ⟨t0, G, J3, kG, ge, hoe, na⟩ := mk_end0 (d2 := d2) (t2 := t2) I1 new kk un2 hok2 os2 bare2 ea ed nd
      have eq : upd (del H2 a) dx (.xd (xf n v)) = upd H1 dx (.xd (xf n v)) := by
        funext b
        by_cases e1 : b = dx
        · rw [e1, upd_same, upd_same]
        · rw [upd_ne e1, upd_ne e1]
          by_cases e2 : b = a
          · rw [e2, del_same, nH]
          · rw [del_ne e2, eH, upd_ne e2, upd_ne e1, upd_ne e2]
      rw [eq] at J3 na
      exact ⟨rv', a, _, _, ⟨G, g2, d2, t2, os'⟩, _, .ref C, some dx, rfl, J3, kG, ge, hoe, ⟨rfl, rfl, fun vs e => by cases e; rfl⟩, rfl, rfl, na, rfl, bare2, raises_own T.ox.exC T.ox.tyC, q2 dx n nd⟩
end

/-- lists of truths are data -/
theorem dp_bits {K : PySem.W.Frag} {H : Hp} : ∀ bs : List Bool, DpAll K H (bs.map V.bl) (bs.map PyData.bool)
  | [] => .nil
  | b :: r => .cons (.bl b) (dp_bits r)
end Nv
set_option Elab.async false
set_option linter.all false
set_option maxRecDepth 100000
set_option maxHeartbeats 4000000
/-! How long a shown datum is at most. -/
namespace Nv
open PySem PySem.Spec PyProof.Rows L2

theorem textFrom_le : ∀ (ts : List Str) (k : Nat) (acc : Str), (textFrom k acc ts).length ≤ acc.length + piled ts
  | [], k, acc => by show acc.length ≤ _; omega
  | t :: r, k, acc => by
    have ih := textFrom_le r (k + 1) (acc ++ (if k > 0 then ", " else "" : String) ++ t)
    show (textFrom (k + 1) (acc ++ (if k > 0 then ", " else "" : String) ++ t) r).length ≤ _
    rw [strLen_append, strLen_append] at ih
    have e : piled (t :: r) = t.length + 2 + piled r := by simp [piled]
    have c : (Str.ofString (if k > 0 then ", " else "" : String)).length ≤ 2 := by
      split
      · decide
      · decide
    rw [e]
    have ih' : (textFrom (k + 1) (acc ++ (if k > 0 then ", " else "" : String) ++ t) r).length ≤ acc.length + (Str.ofString (if k > 0 then ", " else "" : String)).length + t.length + piled r := ih
    omega
theorem listText_le (ts : List Str) : (listText ts).length ≤ piled ts + 2 := by
  unfold listText
  rw [strLen_append]
  have h := textFrom_le ts 0 "["
  have e : (("[" : String) : Str).length = 1 := rfl
  have e2 : (("]" : String) : Str).length = 1 := rfl
  omega
theorem tupleText_le (ts : List Str) : (tupleText ts).length ≤ piled ts + 3 := by
  unfold tupleText
  rw [strLen_append, strLen_append]
  have c : (Str.ofString (if ts.length == 1 then ",)" else ")" : String)).length ≤ 2 := by
    split
    · decide
    · decide
  have e : (("(" : String) : Str).length = 1 := rfl
  by_cases h : ts = []
  · subst h
    exact Nat.le_of_ble_eq_true rfl
  · have j := join_length_add ts h
    have c' : ((if ts.length == 1 then ",)" else ")" : String) : Str).length ≤ 2 := c
    omega
theorem intText_le {i : Int} (h : i.natAbs < 10 ^ 40) : (Str.ofString (toString i)).length ≤ 41 := by
  have e := int_text_length_le10 (k := 40) (by decide) h
  rw [PySem.ofString_length]
  omega

theorem nice_non : Nice .none := ⟨rfl, by decide, by decide, fun h => nomatch h⟩
theorem nice_bl (b : Bool) : Nice (.bool b) := by
  cases b
  · exact ⟨rfl, by decide, by decide, fun h => nomatch h⟩
  · exact ⟨rfl, by decide, by decide, fun h => nomatch h⟩
theorem log_lt {i : Int} (h : i.natAbs < 10 ^ 40) : i.natAbs.log2 < 1920 := by
  by_cases z : i.natAbs = 0
  · rw [z]
    decide
  · have a : i.natAbs.log2 < 140 := (Nat.log2_lt z).mpr (Nat.lt_trans h (by decide))
    omega
theorem nice_int {i : Int} (h : i.natAbs < 10 ^ 40) : Nice (.int i) := by
  refine ⟨?_, by show 0 ≤ 60; decide, ?_, fun h => nomatch h⟩
  · simp only [PyData.showable]
    exact decide_eq_true (log_lt h)
  · show (Str.ofString (toString i)).length ≤ sizeLine
    exact Nat.le_trans (intText_le h) (by decide)
theorem reprText_le {t : Str} (h : t.length ≤ 1000) (hc : ∀ c ∈ t.cps.toList, c < 200) : (reprText t).length ≤ 10 * t.length + 2 := StrLaws.reprText_len t fun c hm => Nat.lt_trans (hc c hm) (by decide)
theorem nice_str {t : Str} (h : t.length ≤ 1000) (hc : ∀ c ∈ t.cps.toList, c < 200) : Nice (.str t) := by
  refine ⟨rfl, by show 0 ≤ 60; decide, ?_, fun h => nomatch h⟩
  show (reprText t).length ≤ sizeLine
  have := reprText_le h hc
  exact Nat.le_trans this (Nat.le_trans (show 10 * t.length + 2 ≤ 10002 by omega) (by decide))
/-- ints in a row -/
def intsOk (xs : List Int) : Prop := ∀ x ∈ xs, x.natAbs < 10 ^ 40
theorem piled_ints : ∀ {xs : List Int}, intsOk xs → piled (PyData.shownAll (xs.map PyData.int)) ≤ 43 * xs.length
  | [], _ => Nat.le_refl _
  | x :: r, h => by
    have ih := piled_ints (xs := r) fun y hy => h y (List.mem_cons_of_mem _ hy)
    have e := intText_le (h x List.mem_cons_self)
    show piled (Str.ofString (toString x) :: PyData.shownAll (r.map PyData.int)) ≤ _
    rw [piled_cons, List.length_cons]
    omega
theorem shows_ints : ∀ {xs : List Int}, intsOk xs → PyData.showableAll (xs.map PyData.int) = true
  | [], _ => rfl
  | x :: r, h => by
    show (PyData.showable (.int x) && PyData.showableAll (r.map PyData.int)) = true
    rw [shows_ints (xs := r) fun y hy => h y (List.mem_cons_of_mem _ hy), (nice_int (h x List.mem_cons_self)).shows]
    rfl
theorem deep_ints : ∀ xs : List Int, PyData.depthAll (xs.map PyData.int) = 0
  | [] => rfl
  | x :: r => by
    show max (PyData.depth (.int x)) (PyData.depthAll (r.map PyData.int)) = 0
    rw [deep_ints r]
    rfl
theorem flat_ints : ∀ xs : List Int, PyData.hasDictAll (xs.map PyData.int) = false
  | [] => rfl
  | x :: r => by
    show (PyData.hasDict (.int x) || PyData.hasDictAll (r.map PyData.int)) = false
    rw [flat_ints r]
    rfl
/-- one nice thing ahead of ints, in a list -/
theorem nice_row {d : PyData} {xs : List Int} (n : Nice d) (nd : d.hasDict = false) (ld : d.shown.length ≤ 20000) (dd : d.depth ≤ 40) (h : intsOk xs) (l : xs.length ≤ 1000) : Nice (.list (d :: xs.map PyData.int)) := by
  refine ⟨?_, ?_, ?_, fun z => ?_⟩
  · show (PyData.showable d && PyData.showableAll (xs.map PyData.int)) = true
    rw [n.shows, shows_ints h]
    rfl
  · show (max d.depth (PyData.depthAll (xs.map PyData.int))) + 1 ≤ 60
    rw [deep_ints]
    omega
  · show (listText (d.shown :: PyData.shownAll (xs.map PyData.int))).length ≤ sizeLine
    have a := listText_le (d.shown :: PyData.shownAll (xs.map PyData.int))
    have b := piled_ints h
    rw [piled_cons] at a
    exact Nat.le_trans a (Nat.le_trans (show _ ≤ 100000 by omega) (by decide))
  · have e : PyData.hasDict (.list (d :: xs.map PyData.int)) = false := by
      show (d.hasDict || PyData.hasDictAll (xs.map PyData.int)) = false
      rw [nd, flat_ints]
      rfl
    rw [e] at z
    cases z
theorem dv_ints {H : Hp} : ∀ xs : List Int, DVs H (xs.map V.int) (xs.map PyData.int)
  | [] => .nil
  | x :: r => .cons (.int x) (dv_ints r)
theorem nice_pair {t : Str} (h : t.length ≤ 1000) (hc : ∀ c ∈ t.cps.toList, c < 200) : Nice (.tuple [.str t, .none]) := by
  refine ⟨rfl, (by show max 0 (max 0 0) + 1 ≤ 60; decide), ?_, fun z => nomatch z⟩
  show (tupleText [reprText t, Str.ofString "None"]).length ≤ sizeLine
  have a := tupleText_le [reprText t, Str.ofString "None"]
  have b := reprText_le h hc
  rw [piled_cons, piled_cons, piled_nil] at a
  have e : (Str.ofString "None").length = 4 := rfl
  exact Nat.le_trans a (Nat.le_trans (show _ ≤ 20000 by omega) (by decide))
theorem nice_empty : Nice (.dict []) := ⟨rfl, by decide, by decide, fun _ => rfl⟩
theorem nice_nil : Nice (.list []) := ⟨rfl, by decide, by decide, fun z => nomatch z⟩
end Nv
set_option Elab.async false
set_option linter.all false
set_option maxRecDepth 100000
set_option maxHeartbeats 16000000
namespace U1
open PySem PySem.Spec PyProof.Rows L2 Nv
def top (i : Nat) : Stmt := PySem.Challenge.pw_nevercrossed_k10_walks_as_texts.main.body.getD i (.Pass ⟨0, 0, 0, 0⟩)
/-! ### what the questions ask, of data -/
def intish : PyData → Bool
  | .bool _ => true
  | .int _ => true
  | _ => false
def boolish : PyData → Bool
  | .bool _ => true
  | _ => false
def tupish : PyData → Bool
  | .tuple _ => true
  | _ => false
def strish : PyData → Bool
  | .str _ => true
  | _ => false
def intB : PyData → Bool
  | .int _ => true
  | _ => false
def pairB : PyData → Bool
  | .tuple [_, _] => true
  | _ => false
def cooB : PyData → Bool
  | .int i => decide (0 ≤ i) && decide (i ≤ 30)
  | _ => false
def ptB : PyData → Bool
  | .tuple [a, b] => cooB a && cooB b
  | _ => false
def dirOf (s : Str) : Bool := decide (s = "r") || (decide (s = "u") || (decide (s = "l") || decide (s = "d")))
def dirB : PyData → Bool
  | .str s => dirOf s
  | _ => false
/-- a def that asks one value and gives a truth -/
def spB (b : PyData → Bool) : Sp := fun vs H Q _ => ∃ v d, vs = [v] ∧ DV H v d ∧ ∀ H', Same H H' → Q (.bl (b d)) H'
theorem same0 (H : Hp) : Same H H := fun _ _ e => e

/-- the type's name of a datum -/
def tyN : PyData → String
  | .none => "NoneType"
  | .bool _ => "bool"
  | .int _ => "int"
  | .str _ => "str"
  | .list _ => "list"
  | .tuple _ => "tuple"
  | .dict _ => "dict"
theorem ty_of {K : PySem.W.Frag} {H : Hp} {v : V} {d : PyData} (h : DV H v d) : TyX K H v (.type (tyN d)) := by
  cases h with
  | non => exact .base .non
  | bl b => exact .base (.bl b)
  | int i => exact .base (.int i)
  | str x => exact .base (.str x)
  | lst h r => exact .base (.lst h)
  | tup h r => exact .base (.tup h)
  | emp h => exact .base (.dK h)
theorem kit_int (d : PyData) : kitB (tyN d) "int" = some (intish d) := by
  cases d
  · show kitB "NoneType" "int" = some false
    decide +kernel
  · show kitB "bool" "int" = some true
    decide +kernel
  · show kitB "int" "int" = some true
    decide +kernel
  · show kitB "str" "int" = some false
    decide +kernel
  · show kitB "list" "int" = some false
    decide +kernel
  · show kitB "tuple" "int" = some false
    decide +kernel
  · show kitB "dict" "int" = some false
    decide +kernel
theorem kit_bool (d : PyData) : kitB (tyN d) "bool" = some (boolish d) := by
  cases d
  · show kitB "NoneType" "bool" = some false
    decide +kernel
  · show kitB "bool" "bool" = some true
    decide +kernel
  · show kitB "int" "bool" = some false
    decide +kernel
  · show kitB "str" "bool" = some false
    decide +kernel
  · show kitB "list" "bool" = some false
    decide +kernel
  · show kitB "tuple" "bool" = some false
    decide +kernel
  · show kitB "dict" "bool" = some false
    decide +kernel
theorem kit_tuple (d : PyData) : kitB (tyN d) "tuple" = some (tupish d) := by
  cases d
  · show kitB "NoneType" "tuple" = some false
    decide +kernel
  · show kitB "bool" "tuple" = some false
    decide +kernel
  · show kitB "int" "tuple" = some false
    decide +kernel
  · show kitB "str" "tuple" = some false
    decide +kernel
  · show kitB "list" "tuple" = some false
    decide +kernel
  · show kitB "tuple" "tuple" = some true
    decide +kernel
  · show kitB "dict" "tuple" = some false
    decide +kernel
theorem kit_str (d : PyData) : kitB (tyN d) "str" = some (strish d) := by
  cases d
  · show kitB "NoneType" "str" = some false
    decide +kernel
  · show kitB "bool" "str" = some false
    decide +kernel
  · show kitB "int" "str" = some false
    decide +kernel
  · show kitB "str" "str" = some true
    decide +kernel
  · show kitB "list" "str" = some false
    decide +kernel
  · show kitB "tuple" "str" = some false
    decide +kernel
  · show kitB "dict" "str" = some false
    decide +kernel
theorem dv_tup {H : Hp} {v : V} {ds : List PyData} (h : DV H v (.tuple ds)) : ∃ a xs, v = .ref a ∧ H a = some (.tup xs) ∧ DVs H xs ds := by
  cases h with
  | tup h r => exact ⟨_, _, rfl, h, r⟩
theorem dv_pair {H : Hp} {v : V} {d e : PyData} (h : DV H v (.tuple [d, e])) : ∃ a x y, v = .ref a ∧ H a = some (.tup [x, y]) ∧ DV H x d ∧ DV H y e := by
  obtain ⟨a, xs, rfl, h1, r⟩ := dv_tup h
  cases r with
  | cons h2 r =>
    cases r with
    | cons h3 r =>
      cases r
      exact ⟨a, _, _, rfl, h1, h2, h3⟩
theorem pair_of {d : PyData} (h : pairB d = true) : ∃ a b, d = .tuple [a, b] := by
  cases d with
  | tuple ds =>
    rcases ds with _ | ⟨a, _ | ⟨b, _ | ⟨c, r⟩⟩⟩
    · cases h
    · cases h
    · exact ⟨a, b, rfl⟩
    · cases h
  | _ => cases h
theorem coo_of {d : PyData} (h : cooB d = true) : ∃ i : Int, d = .int i ∧ 0 ≤ i ∧ i ≤ 30 := by
  cases d with
  | int i =>
    have := Bool.and_eq_true_iff.mp (show (decide (0 ≤ i) && decide (i ≤ 30)) = true from h)
    exact ⟨i, rfl, of_decide_eq_true this.1, of_decide_eq_true this.2⟩
  | _ => cases h
theorem pt_of {d : PyData} (h : ptB d = true) : ∃ i j : Int, d = .tuple [.int i, .int j] ∧ 0 ≤ i ∧ i ≤ 30 ∧ 0 ≤ j ∧ j ≤ 30 := by
  cases d with
  | tuple ds =>
    rcases ds with _ | ⟨a, _ | ⟨b, _ | ⟨c, r⟩⟩⟩
    · cases h
    · cases h
    · have z := Bool.and_eq_true_iff.mp (show (cooB a && cooB b) = true from h)
      obtain ⟨i, rfl, i0, i1⟩ := coo_of z.1
      obtain ⟨j, rfl, j0, j1⟩ := coo_of z.2
      exact ⟨i, j, rfl, i0, i1, j0, j1⟩
    · cases h
  | _ => cases h
theorem dv_int {H : Hp} {v : V} {i : Int} (h : DV H v (.int i)) : v = .int i := by
  cases h
  rfl
theorem dv_str {H : Hp} {v : V} {i : Str} (h : DV H v (.str i)) : v = .str i := by
  cases h
  rfl
theorem dv_pt {H : Hp} {v : V} {i j : Int} (h : DV H v (.tuple [.int i, .int j])) : ∃ a, v = .ref a ∧ H a = some (.tup [.int i, .int j]) := by
  obtain ⟨a, x, y, rfl, h1, hx, hy⟩ := dv_pair h
  rw [dv_int hx, dv_int hy] at h1
  exact ⟨a, rfl, h1⟩
theorem sqt {K : PySem.W.Frag} {H : Hp} {a : Addr} {xs : List V} (h : H a = some (.tup xs)) : SqT K H a xs := .inl (.inl h)

mutual
theorem dv_dp {K : PySem.W.Frag} {H : Hp} : ∀ {v : V} {d : PyData}, DV H v d → d.hasDict = false → Dp K H v d
  | _, _, .non, _ => .non
  | _, _, .bl b, _ => .bl b
  | _, _, .int i, _ => .int i
  | _, _, .str x, _ => .str x
  | _, _, .lst h r, n => .lst (SqL.of h) (dvs_dp r (by simpa [PyData.hasDict] using n))
  | _, _, .tup h r, n => .tup (sqt h) (dvs_dp r (by simpa [PyData.hasDict] using n))
  | _, _, .emp h, n => by simp [PyData.hasDict] at n
theorem dvs_dp {K : PySem.W.Frag} {H : Hp} : ∀ {vs : List V} {ds : List PyData}, DVs H vs ds → PyData.hasDictAll ds = false → DpAll K H vs ds
  | _, _, .nil, _ => .nil
  | _, _, .cons (d := d) (ds := ds) h r, n => by
    have z : d.hasDict = false ∧ PyData.hasDictAll ds = false := by simpa [PyData.hasDictAll] using n
    exact .cons (dv_dp h z.1) (dvs_dp r z.2)
end
structure Ta (mg : Str → Option Value) : Prop where
  isi : mg "isinstance" = none
  int : mg "int" = none
  bool : mg "bool" = none
  tup : mg "tuple" = none
  str : mg "str" = none
  len : mg "len" = none
  last : ∃ t, mg "LAST" = some (.int 30 t)
/-- a def of the text, where it stands -/
structure At (K : PySem.W.Frag) (mg : Str → Option Value) (n : Str) (f : Addr) (fd : FuncData) (ps : List Str) : Prop where
  g : mg n = some (.ref f)
  k : PySem.W.keepIn K (.ref f) = true
  b : Binds K fd ps []
section
variable {P : Program} {w : World} {K : PySem.W.Frag} {mg : Str → Option Value} {base : Heap}
theorem spB_len {b : PyData → Bool} {n : Str} : ∀ (vs : List V) (H : Hp) (Q : VK) (E : XK), spB b vs H Q E → vs.length = [n].length := fun vs H Q E h => by
  obtain ⟨v, d, rfl, _⟩ := h
  rfl
theorem intB_eq {d : PyData} : intB d = (intish d && !(boolish d)) := by cases d <;> rfl
theorem and_t {a b : Bool} (h : a = true) : (a && b) = b := by rw [h]; rfl
theorem and_f {a b : Bool} (h : ¬ a = true) : (a && b) = false := by cases a <;> simp_all
theorem scI : FnScope ["value"] ["value"] (defScope (top 8)) := ⟨rfl, rfl, rfl, by decide +kernel, rfl, by decide +kernel, by decide +kernel⟩
theorem ok_isint {f : Addr} {fd : FuncData} (F : Fun K "is_integer" "is_integer" (top 8) f fd) (T : Ta mg) : FnOk P w K mg base CX0 1 f fd ["value"] (spB intB) := by
  refine F.ok scI spB_len (fun cdv A outer s H vs Q E hr h => ?_)
  obtain ⟨v, d, rfl, dv, q⟩ := h
  refine ⟨_, pss_one (ps_ret (pe_and (pe_callB call_isi (by rfl) T.isi (by decide +kernel) (pa_cons (pv 0) (pa_cons (pe_bltn (v := .ty "int") (u := .type "int") (by rfl) T.int (by decide +kernel) rfl) pa_nil)))
    (pe_one (pe_not (pe_callB call_isi (by rfl) T.isi (by decide +kernel) (pa_cons (pv 0) (pa_cons (pe_bltn (v := .ty "bool") (u := .type "bool") (by rfl) T.bool (by decide +kernel) rfl) pa_nil))))))), ?_⟩
  refine ⟨_, rfl, _, .ty "int", .type (tyN d), .type "int", _, rfl, .ty _, ty_of dv, kit_ty (kit_int d), _, rfl, ite2 (fun e => ?_) (fun e => ?_)⟩
  · refine ⟨_, rfl, _, .ty "bool", .type (tyN d), .type "bool", _, rfl, .ty _, ty_of dv, kit_ty (kit_bool d), _, rfl, ?_⟩
    have := q H (same0 H)
    rwa [intB_eq, and_t e] at this
  · have := q H (same0 H)
    rwa [intB_eq, and_f e] at this
theorem tupish_of {d : PyData} (h : tupish d = true) : ∃ ds, d = .tuple ds := by
  cases d with
  | tuple ds => exact ⟨ds, rfl⟩
  | _ => cases h
theorem int_of {d : PyData} (h : intB d = true) : ∃ i, d = .int i := by
  cases d with
  | int i => exact ⟨i, rfl⟩
  | _ => cases h
theorem coo_int {d : PyData} (h : intB d = false) : cooB d = false := by
  cases d with
  | int i => cases h
  | _ => rfl
/-- a length asked: the datum is a pair, or not -/
theorem pair_len {ds : List PyData} (h : (!decide (V.int (ds.length : Int) = V.int 2)) = false) : ∃ da db, ds = [da, db] := by
  rcases ds with _ | ⟨a, _ | ⟨b, _ | ⟨c, r0⟩⟩⟩
  · cases h
  · cases h
  · exact ⟨a, b, rfl⟩
  · have := of_decide_eq_true (by simpa using h : decide (V.int (((a :: b :: c :: r0).length : Nat) : Int) = V.int 2) = true)
    have := V.int.inj this
    simp only [List.length_cons] at this
    omega
theorem pair_nolen {ds : List PyData} (h : (!decide (V.int (ds.length : Int) = V.int 2)) = true) : pairB (.tuple ds) = false := by
  rcases ds with _ | ⟨a, _ | ⟨b, _ | ⟨c, r0⟩⟩⟩
  · rfl
  · rfl
  · cases h
  · rfl
theorem ptB_pair {d : PyData} (h : pairB d = false) : ptB d = false := by
  cases d with
  | tuple ds =>
    rcases ds with _ | ⟨a, _ | ⟨b, _ | ⟨c, r⟩⟩⟩
    · rfl
    · rfl
    · cases h
    · rfl
  | _ => rfl
theorem pair_tup {d : PyData} (h : tupish d = false) : pairB d = false := by
  cases d with
  | tuple ds => cases h
  | _ => rfl
theorem scPt : FnScope ["value", "x", "y"] ["value"] (defScope (top 9)) := ⟨rfl, rfl, rfl, by decide +kernel, rfl, by decide +kernel, by decide +kernel⟩
theorem ok_ispoint {f fI : Addr} {fd fdI : FuncData} (F : Fun K "is_point" "is_point" (top 9) f fd) (T : Ta mg) (GI : FnOk P w K mg base CX0 1 fI fdI ["value"] (spB intB)) (AI : At K mg "is_integer" fI fdI ["value"]) :
    FnOk P w K mg base CX0 3 f fd ["value"] (spB ptB) := by
  refine F.ok scPt spB_len (fun cdv A outer s H vs Q E hr h => ?_)
  obtain ⟨v, d, rfl, dv, q⟩ := h
  obtain ⟨tt, hT⟩ := T.last
  refine ⟨_, pss_cons (ps_if (PW.pt (pw_or (pt_not (pt_val (pe_callB call_isi (by rfl) T.isi (by decide +kernel) (pa_cons (pv 0) (pa_cons (pe_bltn (v := .ty "tuple") (u := .type "tuple") (by rfl) T.tup (by decide +kernel) rfl) pa_nil)))))
      (pw_or1 (pt_cmpR op_ne (pe_callB call_len_seq (by rfl) T.len PySem.boot_len (pa_cons (pv 0) pa_nil)) pe_int (nomark _))))) (pss_one (ps_ret pe_bl)) pss_nil)
    (pss_cons (ps_asg (pv 0) (pg_tup rfl (pgs_cons (pg_name (i := 1) scPt.nd rfl (Or.inl rfl)) (pgs_cons (pg_name (i := 2) scPt.nd rfl (Or.inl rfl)) pgs_nil))))
    (pss_one (ps_ret (pe_and (pe_call GI (hr.mono (by decide)) rfl AI.g AI.k AI.b .nil pass0 (pa_cons (pv 1) pa_nil)) (pe_and (pe_call GI (hr.mono (by decide)) rfl AI.g AI.k AI.b .nil pass0 (pa_cons (pv 2) pa_nil))
      (pe_and (pe_chain op_le op_le pe_int (pv 1) (pe_glob (v := .int 30) rfl hT ⟨_, rfl⟩)) (pe_one (pe_chain op_le op_le pe_int (pv 2) (pe_glob (v := .int 30) rfl hT ⟨_, rfl⟩))))))))), ?_⟩
  refine ⟨_, rfl, _, .ty "tuple", .type (tyN d), .type "tuple", _, rfl, .ty _, ty_of dv, kit_ty (kit_tuple d), _, rfl, ?_⟩
  cases e : tupish d with
  | false =>
    have := q H (same0 H)
    rwa [ptB_pair (pair_tup e)] at this
  | true =>
    obtain ⟨ds, rfl⟩ := tupish_of e
    obtain ⟨a, xs, rfl, h1, r⟩ := dv_tup dv
    refine ⟨_, rfl, a, xs, rfl, .inr (sqt h1), rfl, _, rfl, ?_⟩
    cases e1 : (!decide (V.int (xs.length : Int) = V.int 2)) with
    | true =>
      have := q H (same0 H)
      rw [r.length] at e1
      rwa [ptB_pair (pair_nolen e1)] at this
    | false =>
      rw [r.length] at e1
      obtain ⟨da, db, rfl⟩ := pair_len e1
      obtain ⟨a', x, y, ea, h1', hx, hy⟩ := dv_pair dv
      cases ea
      refine ⟨_, rfl, a, _, rfl, sqt h1', rfl, _, _, rfl, _, _, rfl, rfl, ?_⟩
      refine ⟨_, rfl, x, da, rfl, hx, fun H2 s2 => ⟨_, rfl, ite2 (fun i1 => ?_) (fun i1 => ?_)⟩⟩
      · obtain ⟨i, rfl⟩ := int_of i1
        refine ⟨_, rfl, y, db, rfl, hy.more s2, fun H3 s3 => ⟨_, rfl, ite2 (fun i2 => ?_) (fun i2 => ?_)⟩⟩
        · obtain ⟨j, rfl⟩ := int_of i2
          have s13 : Same H H3 := fun b o e => s3 b o (s2 b o e)
          rw [dv_int hx, dv_int hy]
          have fin : ptB (.tuple [.int i, .int j]) = ((decide (0 ≤ i) && decide (i ≤ 30)) && (decide (0 ≤ j) && decide (j ≤ 30))) := rfl
          have q3 := q H3 s13
          rw [fin] at q3
          refine ⟨_, rfl, _, _, rfl, rfl, _, rfl, ite2 (fun c1 => ?_) (fun c1 => ?_)⟩
          · rw [c1, Bool.true_and] at q3
            refine ⟨_, _, rfl, rfl, _, rfl, ite2 (fun c2 => ?_) (fun c2 => ?_)⟩
            · rw [c2, Bool.true_and] at q3
              refine ⟨_, rfl, _, _, rfl, rfl, _, rfl, ite2 (fun c3 => ?_) (fun c3 => ?_)⟩
              · rw [c3, Bool.true_and] at q3
                exact ⟨_, _, rfl, rfl, q3⟩
              · rwa [(Bool.not_eq_true _).mp c3, Bool.false_and] at q3
            · rwa [(Bool.not_eq_true _).mp c2, Bool.false_and] at q3
          · rw [(Bool.not_eq_true _).mp c1, Bool.false_and, Bool.false_and] at q3
            exact ⟨_, rfl, q3⟩
        · have := q H3 fun b o e => s3 b o (s2 b o e)
          rwa [show ptB (.tuple [.int i, db]) = false from (by show (cooB _ && cooB db) = false; rw [coo_int ((Bool.not_eq_true _).mp i2), Bool.and_false])] at this
      · have := q H2 s2
        rwa [show ptB (.tuple [da, db]) = false from (by show (cooB da && cooB db) = false; rw [coo_int ((Bool.not_eq_true _).mp i1), Bool.false_and])] at this
end
/-! ### the tables -/
theorem isStr_of {e : DictEntry} {z k : Str} {n : Int} (h : He.keyOf e = some (k, n)) : e.key.isStr z = decide (k = z) ∧ e.refKey = false := by
  unfold He.keyOf at h
  split at h
  · rename_i x t q
    obtain ⟨rfl, -⟩ := Prod.mk.inj (Option.some.inj h)
    refine ⟨?_, ?_⟩
    · rw [q]
      show (x == z) = decide (x = z)
      rfl
    · unfold DictEntry.refKey
      rw [q]
  · cases h
theorem find_keys {z : Str} : ∀ {es : List DictEntry} {ks : List (Str × Int)}, es.map He.keyOf = ks.map some → (∀ e ∈ es, e.refKey = false) ∧ (es.find? (·.key.isStr z)).isSome = ks.any fun k => decide (k.1 = z)
  | [], [], _ => ⟨fun _ h => (nomatch h), rfl⟩
  | [], _ :: _, h => by cases h
  | e :: es, [], h => by cases h
  | e :: es, k :: ks, h => by
    have h1 : He.keyOf e :: es.map He.keyOf = some k :: ks.map some := h
    injection h1 with h2 h3
    obtain ⟨i1, i2⟩ := find_keys (z := z) h3
    obtain ⟨j1, j2⟩ := isStr_of (z := z) (k := k.1) (n := k.2) h2
    constructor
    · intro e' he
      rcases List.mem_cons.mp he with rfl | he
      · exact j2
      · exact i1 e' he
    · rw [List.find?_cons, List.any_cons, ← j1]
      cases e.key.isStr z with
      | true => rfl
      | false =>
        rw [Bool.false_or]
        exact i2
theorem nsIn_keys {K : PySem.W.Frag} {w : World} {a : Addr} {ks : List Str} (h : He.dicW K a = some (He.keysIn w.params ks)) (z : Str) : ∃ r, PySem.W.nsIn K a z = some r ∧ r.isSome = ks.any fun k => decide (k = z) := by
  obtain ⟨es, n, D⟩ := He.dicW_ok h
  have h2 : es.toList.map He.keyOf = (ks.map fun k => (k, PyData.keyHash w.params k)).map some := by
    unfold He.dicW at h
    rw [D.at_] at h
    have h' : (match !(a == sysModules) with
      | true => some (es.toList.map He.keyOf)
      | false => none) = some (He.keysIn w.params ks) := h
    rw [D.low] at h'
    have h3 : es.toList.map He.keyOf = He.keysIn w.params ks := Option.some.inj h'
    rw [h3, List.map_map]
    rfl
  obtain ⟨i1, i2⟩ := find_keys (z := z) h2
  have i3 : (es.toList.find? (·.key.isStr z)).isSome = ks.any fun k => decide (k = z) := by
    rw [i2, List.any_map]
    rfl
  have e0 : PySem.W.nsIn K a z = (match es.toList.find? (·.key.isStr z) with
      | some e => some (some e.val)
      | none => if es.toList.any (·.refKey) then none else some none) := by
    unfold PySem.W.nsIn
    rw [D.at_]
    rfl
  rw [e0]
  cases e : es.toList.find? (·.key.isStr z) with
  | some x =>
    rw [e] at i3
    exact ⟨some x.val, rfl, i3⟩
  | none =>
    rw [e] at i3
    refine ⟨none, ?_, i3⟩
    show (if es.toList.any (·.refKey) then none else some none) = some none
    rw [if_neg]
    intro q
    obtain ⟨x, hx, hr⟩ := List.any_eq_true.mp q
    rw [i1 x hx] at hr
    cases hr
theorem dirOf_any (z : Str) : (([("r" : Str), "u", "l", "d"] : List Str).any fun k : Str => decide (k = z)) = dirOf z := by
  have c : ∀ k : Str, decide (k = z) = decide (z = k) := fun k => by
    by_cases e : k = z
    · rw [decide_eq_true e, decide_eq_true e.symm]
    · rw [decide_eq_false e, decide_eq_false fun x => e x.symm]
  simp only [List.any_cons, List.any_nil, Bool.or_false, c]
  rfl
/-- the steps, as they stand -/
structure Steps (K : PySem.W.Frag) (w : World) (mg : Str → Option Value) (a : Addr) : Prop where
  g : mg "STEPS" = some (.ref a)
  d : He.dicW K a = some (He.keysIn w.params ["r", "u", "l", "d"])
theorem dir_cases {s : Str} (h : dirOf s = true) : s = "r" ∨ s = "u" ∨ s = "l" ∨ s = "d" := by
  unfold dirOf at h
  simp only [Bool.or_eq_true, decide_eq_true_eq] at h
  exact h

theorem stay {H : Hp} {a b : Addr} {o u : HO} (h : H b = some u) (n : H a = none) : upd H a o b = some u := by
  rw [upd_ne (ne_of_none h n)]
  exact h
section
variable {K : PySem.W.Frag}
theorem same_tr {a b c : Hp} (h : Same a b) (k : Same b c) : Same a c := fun x o e => k x o (h x o e)
/-- a written pair of ints -/
def pairK (K : PySem.W.Frag) (u : Option (Option Value)) (x y : Int) : Bool := match u with
  | some (some (.ref a)) => (match K.lookup a with
    | some ⟨.type c, _, .seq its _, _⟩ => (match its.toList with
      | [.int i _, .int j _] => decide (c = "tuple") && (decide (i = x) && decide (j = y))
      | _ => false)
    | _ => false)
  | _ => false
theorem pairK_of {u : Option (Option Value)} {x y : Int} (h : pairK K u x y = true) : ∃ t, u = some (some (.ref t)) ∧ ∀ H, SqT K H t [.int x, .int y] := by
  unfold pairK at h
  split at h
  · rename_i a
    split at h
    · rename_i c dd its n sl e
      split at h
      · rename_i i t1 j t2 e2
        simp only [Bool.and_eq_true, decide_eq_true_eq] at h
        obtain ⟨rfl, rfl, rfl⟩ := h
        refine ⟨a, rfl, fun H => .inr ⟨_, its, n, e, rfl, rfl, ?_, ?_⟩⟩
        · rw [← Array.length_toList, e2]
          show 2 ≤ sizeLine
          decide
        · rw [e2]
          exact .cons ⟨_, rfl⟩ (.cons ⟨_, rfl⟩ .nil)
      · cases h
    · cases h
  · cases h
def strK (u : Option (Option Value)) (x : Str) : Bool := match u with
  | some (some (.str y _)) => decide (y = x)
  | _ => false
theorem strK_of {u : Option (Option Value)} {x : Str} (h : strK u x = true) : ∃ t, u = some (some (.str x t)) := by
  unfold strK at h
  split at h
  · exact ⟨_, by rw [of_decide_eq_true h]⟩
  · cases h
end
structure Steps2 (K : PySem.W.Frag) (a : Addr) : Prop where
  r : pairK K (PySem.W.nsIn K a "r") 1 0 = true
  u : pairK K (PySem.W.nsIn K a "u") 0 1 = true
  l : pairK K (PySem.W.nsIn K a "l") (-1) 0 = true
  d : pairK K (PySem.W.nsIn K a "d") 0 (-1) = true
end U1
set_option Elab.async false
set_option linter.all false
set_option maxRecDepth 100000
set_option maxHeartbeats 16000000
namespace U1
open PySem PySem.Spec PyProof.Rows L2 Nv SX
/-- a text of signs, not long -/
def spCo : Sp := fun vs H Q _ => ∃ w : List Nat, vs = [.str (S w)] ∧ w.length ≤ 1000 ∧ Q (.bl (cwB w)) H
def spRP : Sp := fun vs H Q _ => ∃ u : List Nat, vs = [.str (S u)] ∧ u.length ≤ 1000 ∧ (nums u = none → ∀ H', Same H H' → Q .non H') ∧ (∀ p, nums u = some p → ∀ a H', Same H H' → H' a = some (.tup [.int p.1, .int p.2]) → Q (.ref a) H')
theorem num_txt (n : Nat) : V.str (Str.ofString (toString ((n : Nat) : Int))) = .str (S (TL.numL n)) := congrArg V.str (num_S n)
theorem dec_S (a b : List Nat) : decide (V.str (S a) = V.str (S b)) = decide (a = b) := by
  by_cases e : a = b
  · rw [decide_eq_true e, decide_eq_true (by rw [e])]
  · rw [decide_eq_false e, decide_eq_false fun z => e (S_inj (V.str.inj z))]
theorem small_log {n : Nat} (h : n ≤ 1000) : ((n : Nat) : Int).natAbs.log2 < 1920 := by
  rw [Int.natAbs_natCast]
  exact Nat.lt_of_le_of_lt (Nat.log2_le_self n) (by omega)
theorem digs_val {w : List Nat} (h : w.length ≤ 2) (d : w.all dig = true) : val w ≤ 99 := by
  rw [List.all_eq_true] at d
  have bnd : ∀ c, c ∈ w → 48 ≤ c ∧ c ≤ 57 := fun c hc => by
    have := Bool.and_eq_true_iff.mp (d c hc)
    exact ⟨of_decide_eq_true this.1, of_decide_eq_true this.2⟩
  rcases w with _ | ⟨a, _ | ⟨b, _ | ⟨c, r⟩⟩⟩
  · exact Nat.zero_le _
  · have ha := bnd a (by simp)
    obtain ⟨x, rfl⟩ : ∃ x : Fin 10, a = 48 + x.val := ⟨⟨a - 48, by omega⟩, by simp; omega⟩
    have : ∀ x : Fin 10, val [48 + x.val] ≤ 99 := by decide +kernel
    exact this x
  · have ha := bnd a (by simp)
    have hb := bnd b (by simp)
    obtain ⟨x, rfl⟩ : ∃ x : Fin 10, a = 48 + x.val := ⟨⟨a - 48, by omega⟩, by simp; omega⟩
    obtain ⟨y, rfl⟩ : ∃ y : Fin 10, b = 48 + y.val := ⟨⟨b - 48, by omega⟩, by simp; omega⟩
    have : ∀ x y : Fin 10, val [48 + x.val, 48 + y.val] ≤ 99 := by decide +kernel
    exact this x y
  · simp only [List.length_cons] at h
    omega
theorem size1000 {n : Nat} (h : n ≤ 1100) : n ≤ sizeLine := Nat.le_trans h (by decide)
theorem two_of {α : Type} {l : List α} (h : (!decide (V.int (l.length : Int) = V.int 2)) = false) : ∃ a b, l = [a, b] := by
  rcases l with _ | ⟨a, _ | ⟨b, _ | ⟨c, r0⟩⟩⟩
  · cases h
  · cases h
  · exact ⟨a, b, rfl⟩
  · have := of_decide_eq_true (by simpa using h : decide (V.int (((a :: b :: c :: r0).length : Nat) : Int) = V.int 2) = true)
    have := V.int.inj this
    simp only [List.length_cons] at this
    omega
theorem not_two {l : List (List Nat)} (h : (!decide (V.int (l.length : Int) = V.int 2)) = true) : ∀ a b, l ≠ [a, b] := by
  rintro a b rfl
  cases h
section
variable {P : Program} {w : World} {K : PySem.W.Frag} {mg : Str → Option Value} {base : Heap}
theorem scCo : FnScope ["word"] ["word"] (defScope (top 17)) := ⟨rfl, rfl, rfl, by decide +kernel, rfl, by decide +kernel, by decide +kernel⟩
theorem ok_coord {f : Addr} {fd : FuncData} (F : Fun K "_is_coordinate" "_is_coordinate" (top 17) f fd) (T : Ta mg) : FnOk P w K mg base CX0 1 f fd ["word"] spCo := by
  refine F.ok scCo (fun vs H Q E h => by obtain ⟨w, rfl, _⟩ := h; rfl) (fun cdv A outer s H vs Q E hr h => ?_)
  obtain ⟨w, rfl, hl, q⟩ := h
  obtain ⟨tt, hT⟩ := T.last
  refine ⟨_, pss_one (ps_ret (pe_and (pe_cmpR op_le (pe_callB call_len_str (by rfl) T.len PySem.boot_len (pa_cons (pv 0) pa_nil)) pe_int (nomark _))
    (pe_and (pe_bm0 PySem.F.plainAttrs_str PySem.F.slot_str_isascii PySem.F.type_str_isascii mt_isascii (pv 0))
    (pe_and (pe_bm0 PySem.F.plainAttrs_str PySem.F.slot_str_isdecimal PySem.F.type_str_isdecimal mt_isdecimal (pv 0))
    (pe_and (pe_cmpR op_eq (pe_callTy call_str_int (by rfl) T.str (by decide +kernel) (pa_cons (pe_callTy call_int_str (by rfl) T.int (by decide +kernel) (pa_cons (pv 0) pa_nil)) pa_nil)) (pv 0) (nomark _))
    (pe_one (pe_cmpR op_le (pe_callTy call_int_str (by rfl) T.int (by decide +kernel) (pa_cons (pv 0) pa_nil)) (pe_glob (v := .int 30) rfl hT ⟨_, rfl⟩) (nomark _)))))))), ?_⟩
  have sl := S_len w
  unfold cwB at q
  refine ⟨_, rfl, S w, rfl, by rw [sl]; exact size1000 (by omega), _, _, rfl, rfl, _, rfl, ite2 (fun c1 => ?_) (fun c1 => ?_)⟩
  · have c1 : w.length ≤ 2 := by
      have := of_decide_eq_true c1
      rw [sl] at this
      omega
    rw [decide_eq_true c1, Bool.true_and] at q
    refine ⟨_, rfl, rfl, S w, rfl, rfl, trivial, _, rfl, ite2 (fun c2 => ?_) (fun c2 => ?_)⟩
    · have c2 : w.all (· < 128) = true := by
        have : (S w).cps.all (· < 128) = true := c2
        rw [← Array.all_toList] at this
        exact this
      rw [c2, Bool.true_and] at q
      refine ⟨_, rfl, rfl, S w, rfl, rfl, trivial, _, rfl, ite2 (fun c3 => ?_) (fun c3 => ?_)⟩
      · have c3 : 0 < w.length ∧ w.all Unicode.isDecimal = true := by
          have z := Bool.and_eq_true_iff.mp (show (decide ((S w).length > 0) && (S w).cps.all Unicode.isDecimal) = true from c3)
          have z1 := of_decide_eq_true z.1
          have z2 := z.2
          rw [← Array.all_toList] at z2
          rw [sl] at z1
          exact ⟨z1, z2⟩
        rw [decide_eq_true c3.1, c3.2, Bool.true_and, Bool.true_and] at q
        have hv := cw_int c2 c3.2 c3.1 c1
        have v99 := digs_val c1 (dig_of c2 c3.2)
        refine ⟨_, rfl, S w, _, rfl, hv, by rw [sl]; omega, _, rfl, small_log (by omega), _, rfl, rfl, _, rfl, ?_⟩
        rw [num_txt, dec_S]
        refine ite2 (fun c4 => ?_) (fun c4 => ?_)
        · rw [c4, Bool.true_and] at q
          refine ⟨_, rfl, S w, _, rfl, hv, by rw [sl]; omega, _, _, rfl, rfl, ?_⟩
          show Q (.bl (decide (((val w : Nat) : Int) ≤ 30))) H
          rw [show decide (((val w : Nat) : Int) ≤ 30) = decide (val w ≤ 30) by
            by_cases e : val w ≤ 30
            · rw [decide_eq_true e, decide_eq_true (by omega)]
            · rw [decide_eq_false e, decide_eq_false (by omega)]]
          exact q
        · rwa [(Bool.not_eq_true _).mp c4, Bool.false_and] at q
      · have c3 : (decide (0 < w.length) && w.all Unicode.isDecimal) = false := by
          have z : (decide ((S w).length > 0) && (S w).cps.all Unicode.isDecimal) = false := (Bool.not_eq_true _).mp c3
          rw [← Array.all_toList, sl] at z
          exact z
        rwa [c3, Bool.false_and] at q
    · have c2 : w.all (· < 128) = false := by
        have z : (S w).cps.all (· < 128) = false := (Bool.not_eq_true _).mp c2
        rw [← Array.all_toList] at z
        exact z
      rwa [c2, Bool.false_and] at q
  · have c1 : ¬ w.length ≤ 2 := fun z => c1 (decide_eq_true (by rw [sl]; omega))
    rwa [decide_eq_false c1, Bool.false_and] at q
theorem scRP : FnScope ["text", "words"] ["text"] (defScope (top 16)) := ⟨rfl, rfl, rfl, by decide +kernel, rfl, by decide +kernel, by decide +kernel⟩
theorem nums_two {u a b : List Nat} (h : TL.spl [44] 0 [] u = [a, b]) : nums u = if cwB a = true then (if cwB b = true then some (((val a : Nat) : Int), ((val b : Nat) : Int)) else none) else none := by
  unfold nums
  rw [h]
theorem nums_not {u : List Nat} (h : ∀ a b, TL.spl [44] 0 [] u ≠ [a, b]) : nums u = none := by
  unfold nums
  split
  · rename_i a b e
    exact absurd e (h a b)
  · rfl
theorem spl_le {s : List Nat} : ∀ (l : List Nat) (k : Nat) (acc : List Nat) (M : Nat), acc.length + l.length ≤ M → ∀ x ∈ TL.spl s k acc l, x.length ≤ M
  | [], k, acc, M, h, x, hx => by
    rw [TL.spl_nil] at hx
    rw [List.mem_singleton.mp hx]
    simp only [List.length_nil] at h
    omega
  | c :: r, 0, acc, M, h, x, hx => by
    simp only [List.length_cons] at h
    unfold TL.spl at hx
    split at hx
    · rcases List.mem_cons.mp hx with rfl | hx
      · omega
      · exact spl_le r _ [] M (by simp only [List.length_nil]; omega) x hx
    · exact spl_le r 0 (acc ++ [c]) M (by rw [List.length_append, List.length_singleton]; omega) x hx
  | c :: r, k + 1, acc, M, h, x, hx => by
    simp only [List.length_cons] at h
    exact spl_le r k acc M (by omega) x hx
theorem ok_readp {f fC : Addr} {fd fdC : FuncData} (F : Fun K "_read_point" "_read_point" (top 16) f fd) (T : Ta mg) (GC : FnOk P w K mg base CX0 1 fC fdC ["word"] spCo) (AC : At K mg "_is_coordinate" fC fdC ["word"]) : FnOk P w K mg base CX0 2 f fd ["text"] spRP := by
  refine F.ok scRP (fun vs H Q E h => by obtain ⟨w, rfl, _⟩ := h; rfl) (fun cdv A outer s H vs Q E hr h => ?_)
  obtain ⟨u, rfl, hl, qn, qs⟩ := h
  refine ⟨_, pss_cons (ps_set (i := 1) scRP.nd rfl (Or.inl rfl) (pe_split (pv 0) pe_str))
    (pss_cons (ps_if (PW.pt (pw_or (pt_cmpR op_ne (pe_callB call_len_seq (by rfl) T.len PySem.boot_len (pa_cons (pv 1) pa_nil)) pe_int (nomark _))
      (pw_or (pt_not (pt_val (pe_call GC hr rfl AC.g AC.k AC.b .nil pass0 (pa_cons (pe_ix ix_list (pv 1) pe_int (fun _ _ => rfl)) pa_nil)))) (pw_or1 (pt_not (pt_val (pe_call GC hr rfl AC.g AC.k AC.b .nil pass0 (pa_cons (pe_ix ix_list (pv 1) pe_int (fun _ _ => rfl)) pa_nil)))))))) (pss_one (ps_ret pe_non)) pss_nil)
    (pss_one (ps_ret (pe_tup (pa_cons (pe_callTy call_int_str (by rfl) T.int (by decide +kernel) (pa_cons (pe_ix ix_list (pv 1) pe_int (fun _ _ => rfl)) pa_nil)) (pa_cons (pe_callTy call_int_str (by rfl) T.int (by decide +kernel) (pa_cons (pe_ix ix_list (pv 1) pe_int (fun _ _ => rfl)) pa_nil)) pa_nil)))))), ?_⟩
  have hsp : Txt.split (S u) (("," : Str)) = (TL.spl [44] 0 [] u).map S := split_S (b := [44]) (List.cons_ne_nil _ _) rfl
  refine ⟨_, rfl, ⟨_, rfl⟩, S u, _, rfl, rfl, rfl, by rw [S_len]; exact size1000 (by omega), fun l hn => ?_⟩
  rw [hsp]
  have sm : Same H (upd H l (.lst (((TL.spl [44] 0 [] u).map S).map V.str))) := fun b o e => stay e hn
  refine ⟨_, rfl, l, _, rfl, .inl (SqL.of upd_same), rfl, _, rfl, ?_⟩
  rw [List.length_map, List.length_map]
  cases e1 : (!decide (V.int (((TL.spl [44] 0 [] u).length : Nat) : Int) = V.int 2)) with
  | true => exact qn (nums_not (not_two e1)) _ sm
  | false =>
    obtain ⟨a, b, e2⟩ := two_of e1
    have hn2 := nums_two e2
    have la : a.length ≤ 1000 := spl_le u 0 [] 1000 (by simpa using hl) a (by rw [e2]; simp)
    have lb : b.length ≤ 1000 := spl_le u 0 [] 1000 (by simpa using hl) b (by rw [e2]; simp)
    have hq : (upd H l (.lst (((TL.spl [44] 0 [] u).map S).map V.str))) l = some (.lst [.str (S a), .str (S b)]) := by
      rw [upd_same, e2]
      rfl
    refine ⟨_, rfl, l, _, _, _, rfl, rfl, SqL.of hq, rfl, a, rfl, la, _, rfl, ?_⟩
    cases ca : cwB a with
    | false =>
      refine qn ?_ _ sm
      rw [hn2, ca]
      rfl
    | true =>
      refine ⟨_, rfl, l, _, _, _, rfl, rfl, SqL.of hq, rfl, b, rfl, lb, _, rfl, ?_⟩
      cases cb : cwB b with
      | false =>
        refine qn ?_ _ sm
        rw [hn2, ca, cb]
        rfl
      | true =>
        obtain ⟨_, _, ia, la2⟩ := cw_of ca
        obtain ⟨_, _, ib, lb2⟩ := cw_of cb
        refine ⟨_, rfl, l, _, _, _, rfl, rfl, SqL.of hq, rfl, S a, _, rfl, ia, by rw [S_len]; omega, _, rfl, l, _, _, _, rfl, rfl, SqL.of hq, rfl, S b, _, rfl, ib, by rw [S_len]; omega, (by show 2 ≤ sizeLine; decide), fun p hp => ?_⟩
        exact qs (((val a : Nat) : Int), ((val b : Nat) : Int)) (by rw [hn2, ca, cb]; rfl) p _ (fun b o e => stay (sm b o e) hp) upd_same
end
end U1
set_option Elab.async false
set_option linter.all false
set_option maxRecDepth 100000
set_option maxHeartbeats 16000000
namespace U1
open PySem PySem.Spec PyProof.Rows L2 Nv SX
abbrev sIni : Stmt := inClass (top 1) 0
theorem for_str {x : Str} {g : TG} {tb : TS} {D : Ends} {σ : L2.St} {H : Hp} (Pv : Nat → L2.St → Hp → Prop) (h0 : Pv 0 σ H)
    (hs : ∀ i c σ H, x.cps[i]? = some c → Pv i σ H → g (.str ⟨#[c]⟩) σ H fun σ2 H2 => tb { D with nx := Pv (i + 1), ct := Pv (i + 1), bk := D.nx } σ2 H2) (hd : ∀ σ H, Pv x.cps.size σ H → D.nx σ H) :
    ∃ W : Nat → Nat → L2.St → Hp → Prop, (∃ m, W 0 m σ H) ∧ ∀ i m σ H, W i m σ H →
      ((Its x).stop i H ∧ D.nx σ H) ∨ ((Its x).go i H ∧ ∃ N : L2.St → Hp → Prop, (∀ σ' H', N σ' H' → ∃ m', m' < m ∧ W (i + 1) m' σ' H') ∧ ∀ y H', (Its x).yld i H y H' → g y σ H' fun σ2 H2 => tb { D with nx := N, ct := N, bk := D.nx } σ2 H2) := by
  refine ⟨fun i m σ H => m = x.cps.size - i ∧ i ≤ x.cps.size ∧ Pv i σ H, ⟨x.cps.size, by simp, Nat.zero_le _, h0⟩, ?_⟩
  rintro i m σ H ⟨rfl, hi, p⟩
  by_cases hlt : i < x.cps.size
  · refine .inr ⟨hlt, Pv (i + 1), fun σ' H' h => ⟨_, by omega, rfl, by omega, h⟩, ?_⟩
    rintro y H' ⟨rfl, c, hc, rfl⟩
    exact hs i c σ _ hc p
  · have e : i = x.cps.size := by omega
    subst e
    exact .inl ⟨Nat.le_refl _, hd σ H p⟩


section
variable {P : Program} {w : World} {K : PySem.W.Frag} {mg : Str → Option Value} {base : Heap}
theorem okN {x qual : Str} {st : Stmt} {f : Addr} {fd : FuncData} {N ps : List Str} {k : Nat} {sp : Sp} (F : Fun K x qual st f fd) (S : FnScope N ps (defScope st)) (len : ∀ vs H Q E, sp vs H Q E → vs.length = ps.length)
    (hbody : ∀ (cdv : Value) (A : Around) (outer : List Env) (s : Shared) (H : Hp) (vs : List V) (Q : VK) (E : XK), Room k (A.deeper (envOfC qual (defScope st) s.heap.objs.size f cdv)) → sp vs H Q E →
      L2N.Takes (cxOf (L2N.CX P w) P w K mg base N qual (defScope st) f cdv A outer s H E) (fun cls d _ H => E cls d H) →
      ∃ t, PSs (cxOf (L2N.CX P w) P w K mg base N qual (defScope st) f cdv A outer s H E) (defBody st) t ∧ t { nx := fun _ H' => Q .non H', rt := Q } (start N vs) H) : FnOk P w K mg base (L2N.CX P w) (k + 1) f fd ps sp := by
  obtain ⟨oc, od, kV, doc, pm, an, cdv, ct, osl, rfl, lk, hcd⟩ := F.ex
  exact fn_of lk hcd S len fun A outer s H vs Q E hr hsp => hbody cdv A outer s H vs Q E hr hsp (L2N.takes_of rfl rfl rfl rfl)
theorem scIn : FnScope ["self", "value"] ["self", "value"] (defScope sIni) := ⟨rfl, rfl, rfl, by decide +kernel, rfl, by decide +kernel, by decide +kernel⟩
theorem ok_ini {f : Addr} {fd : FuncData} (F : Fun K "__init__" "NevercrossedError.__init__" sIni f fd) : FnOk P w K mg base CX0 1 f fd ["self", "value"] (spIni K) := by
  refine F.ok scIn (fun vs H Q E h => ?_) (fun cdv A outer s H vs Q E hr h => ?_)
  · obtain ⟨a, C, v, rfl, _⟩ := h
    rfl
  · obtain ⟨a, C, v, rfl, T, nv, nf, nc, ha, q⟩ := h
    refine ⟨_, pss_cons (ps_ost (pv 0) (pv 1)) (pss_one (ps_ost (pv 0) (pe_cname (pe_xcls (pv 0))))), _, rfl, _, rfl, a, C, rfl, T, nv, .inl ⟨ha, fun dx nd ne => ?_⟩⟩
    refine ⟨_, rfl, a, C, dx, _, rfl, nc, upd_same, (by rw [upd_ne ne]; exact upd_same), C, rfl, nc, fun n => ⟨_, rfl, a, C, rfl, T, nf, .inr ⟨dx, _, upd_same, (by rw [upd_ne ne]; exact upd_same), (by show 1 ≤ 900; decide), ?_⟩⟩⟩
    have z := q dx n nd ne
    rw [← ini_heap ne] at z
    exact z

end
section
variable {X : Cx}
theorem CallR.or {id : Value} {r1 r2 : List V → Hp → VK → Prop} (h1 : CallR X id r1) (h2 : CallR X id r2) : CallR X id (fun xs H Q => r1 xs H Q ∨ r2 xs H Q) := by
  intro pins s σ H xs us Q I r h
  rcases h with h | h
  · exact h1 pins s σ H xs us Q I r h
  · exact h2 pins s σ H xs us Q I r h
end
/-- what read_walk is given: a text or not -/
inductive Ask (K : PySem.W.Frag) (H : Hp) : V → Option (List Nat) → Prop
  | txt (t : List Nat) (l : t.length ≤ 1000) : Ask K H (.str (S t)) (some t)
  | dat {v : V} {d : PyData} (dv : DV H v d) (n : strish d = false) : Ask K H v none
  | exc {a C : Addr} (x : XIn H a C) (c : XCls K C) (k : PySem.W.kitOne K (.ref C) (.type "str") = some false) : Ask K H (.ref a) none
def stq : Option (List Nat) → List Nat × List Nat
  | some t => parts t
  | none => ([], [])
def askW : Option (List Nat) → Option (List Pt)
  | some t => walkOf t
  | none => none
theorem nums_nil : nums [] = none := by
  unfold nums
  rw [TL.spl_nil]
theorem ask_is (o : Option (List Nat)) : askW o = match nums (stq o).1 with
    | none => none
    | some p => if 0 < (stq o).2.length ∧ (stq o).2.length < 401 then walkIf p (stq o).2 else none := by
  cases o with
  | some t => rfl
  | none =>
    show none = match nums [] with
      | none => none
      | some p => if 0 < ([] : List Nat).length ∧ ([] : List Nat).length < 401 then walkIf p [] else none
    rw [nums_nil]
theorem parts_le (t : List Nat) : (parts t).1.length ≤ t.length ∧ (parts t).2.length ≤ t.length ∧ ∃ m, Txt.partition (S t) (S [32]) = (S (parts t).1, m, S (parts t).2) := by
  unfold parts
  by_cases h : 32 ∈ t
  · obtain ⟨p, q, rfl, n⟩ := cut_at h
    rw [partition_some (List.cons_ne_nil _ _) (par_cut n), par_cut n]
    refine ⟨?_, ?_, _, rfl⟩
    · show p.length ≤ _
      rw [List.length_append]
      omega
    · show q.length ≤ _
      rw [List.length_append, List.length_cons]
      omega
  · rw [partition_none (List.cons_ne_nil _ _) (TL.par_none1 h), TL.par_none1 h]
    exact ⟨Nat.le_refl _, Nat.zero_le _, _, rfl⟩
def endp (p : Pt) : List Nat → Pt
  | [] => p
  | c :: r => endp (nxt p c) r
theorem path_snoc : ∀ (p : Pt) (l : List Nat) (c : Nat), path p (l ++ [c]) = path p l ++ [nxt (endp p l) c]
  | p, [], c => rfl
  | p, d :: r, c => by
    show nxt p d :: path (nxt p d) (r ++ [c]) = _
    rw [path_snoc (nxt p d) r c]
    rfl
theorem endp_snoc : ∀ (p : Pt) (l : List Nat) (c : Nat), endp p (l ++ [c]) = nxt (endp p l) c
  | p, [], c => rfl
  | p, d :: r, c => endp_snoc (nxt p d) r c
theorem take_snoc {q : List Nat} {i c : Nat} (h : q[i]? = some c) : q.take (i + 1) = q.take i ++ [c] := by
  rw [List.take_add_one, h]
  rfl
theorem walk_bad {p : Pt} {q : List Nat} {i c : Nat} (h : q[i]? = some c) (n : dirc c = false) : walkIf p q = none := by
  unfold walkIf
  rw [if_neg]
  intro z
  rw [List.all_eq_true.mp z c (List.mem_of_getElem? h)] at n
  cases n
theorem dirs_all {q : List Nat} (h : ∀ (i c : Nat), q[i]? = some c → dirc c = true) : q.all dirc = true := by
  rw [List.all_eq_true]
  intro c hc
  obtain ⟨i, hi⟩ := List.mem_iff_getElem?.mp hc
  exact h i c hi
theorem ptD_on (p : Pt) : ptB (ptD p) = onP p := rfl
theorem dvs_snoc {H : Hp} : ∀ {xs : List V} {ds : List PyData} {v : V} {d : PyData}, DVs H xs ds → DV H v d → DVs H (xs ++ [v]) (ds ++ [d])
  | _, _, _, _, .nil, h => .cons h .nil
  | _, _, _, _, .cons g r, h => .cons g (dvs_snoc r h)
def del (H : Hp) (p : Addr) : Hp := fun b => if b = p then none else H b
theorem del_ne {H : Hp} {p b : Addr} (h : b ≠ p) : del H p b = H b := if_neg h
theorem del_same {H : Hp} {p : Addr} : del H p p = none := if_pos rfl
theorem of_del {H : Hp} {p : Addr} : Same (del H p) H := fun b o e => by
  by_cases h : b = p
  · rw [h, del_same] at e
    cases e
  · rwa [del_ne h] at e
theorem same_del {H H' : Hp} {p : Addr} (k : Same H H') : Same (del H p) (del H' p) := fun b o e => by
  by_cases h : b = p
  · rw [h, del_same] at e
    cases e
  · rw [del_ne h] at e ⊢
    exact k b o e
theorem del_upd {H : Hp} {p : Addr} {o : HO} : Same (del H p) (del (upd H p o) p) := fun b u e => by
  by_cases h : b = p
  · rw [h, del_same] at e
    cases e
  · rw [del_ne h] at e ⊢
    rw [upd_ne h]
    exact e
theorem del_of {H : Hp} {b p : Addr} {o : HO} (e : H b = some o) (n : b ≠ p) : del H p b = some o := by
  rw [del_ne n]
  exact e
theorem ne_of2 {H : Hp} {a b : Addr} {o : HO} (h : H a = some o) (n : H b = none) : b ≠ a := fun e => by
  rw [e, h] at n
  cases n
structure Tx (K : PySem.W.Frag) (mg : Str → Option Value) (C fI : Addr) : Prop where
  xc : Xc K C fI
  gl : mg "BadText" = some (.ref C)
def spRead (K : PySem.W.Frag) (C : Addr) : Sp := fun vs H Q E => ∃ v o, vs = [v] ∧ Ask K H v o ∧ (∀ l, askW o = some l → ∀ a xs H', Same H H' → H' a = some (.tup xs) → DVs H' xs (l.map ptD) → Q (.ref a) H') ∧
  (askW o = none → ∀ dx H', Same H H' → XD H' dx (.int 1) → E (.ref C) (some dx) H')
structure Tk (mg : Str → Option Value) : Prop where
  most : ∃ t, mg "MOST_POINTS" = some (.int 401 t)
  all : mg "all" = none
theorem dirOf_c (c : Nat) : dirOf ⟨#[c]⟩ = dirc c := by
  have e : ∀ (c n : Nat) (z : Str), z = ⟨#[n]⟩ → decide ((⟨#[c]⟩ : Str) = z) = decide (c = n) := by
    intro c n z hz
    rw [hz]
    by_cases h : c = n
    · rw [decide_eq_true h, decide_eq_true (by rw [h])]
    · rw [decide_eq_false h, decide_eq_false fun y => h ?_]
      have := congrArg (fun s : Str => s.cps.toList) y
      exact List.head_eq_of_cons_eq this
  unfold dirOf dirc
  rw [e c 114 "r" rfl, e c 117 "u" rfl, e c 108 "l" rfl, e c 100 "d" rfl]
theorem dir_cs {c : Nat} (h : dirc c = true) : c = 114 ∨ c = 117 ∨ c = 108 ∨ c = 100 := by
  unfold dirc at h
  simp only [Bool.or_eq_true, decide_eq_true_eq] at h
  exact h
theorem step_c {K : PySem.W.Frag} {a : Addr} (Z : Steps2 K a) {c : Nat} (h : dirc c = true) : ∃ t, PySem.W.nsIn K a ⟨#[c]⟩ = some (some (.ref t)) ∧ ∀ H, SqT K H t [.int (sxc c), .int (syc c)] := by
  rcases dir_cs h with rfl | rfl | rfl | rfl
  · exact pairK_of Z.r
  · exact pairK_of Z.u
  · exact pairK_of Z.l
  · exact pairK_of Z.d
section
variable {P : Program} {w : World} {K : PySem.W.Frag} {mg : Str → Option Value} {base : Heap} {C fI : Addr} {fdI : FuncData}
theorem scRW : FnScope ["text", "start", "_", "steps", "walk", "x", "y", "step", "step_x", "step_y", "point"] ["text"] (defScope (top 15)) := ⟨rfl, rfl, rfl, by decide +kernel, rfl, by decide +kernel, by decide +kernel⟩
def readR (a q : List Nat) : Option (List Pt) := match nums a with
  | none => none
  | some p => if 0 < q.length ∧ q.length < 401 then walkIf p q else none
theorem path_len : ∀ (p : Pt) (l : List Nat), (path p l).length = l.length
  | _, [] => rfl
  | p, c :: r => congrArg Nat.succ (path_len (nxt p c) r)
theorem read_some {a q : List Nat} {p : Pt} (h : nums a = some p) (l : 0 < q.length ∧ q.length < 401) : readR a q = walkIf p q := by
  unfold readR
  rw [h]
  exact if_pos l
theorem read_long {a q : List Nat} {p : Pt} (h : nums a = some p) (l : ¬ (0 < q.length ∧ q.length < 401)) : readR a q = none := by
  unfold readR
  rw [h]
  exact if_neg l
theorem read_none {a q : List Nat} (h : nums a = none) : readR a q = none := by
  unfold readR
  rw [h]
theorem tail_readw {f fR fP aS : Addr} {fdR fdP : FuncData} {cdv : Value} {A : Around} {outer : List Env} {s : Shared} {H : Hp} {E : XK} (hr : Room 3 (A.deeper (envOfC "read_walk" (defScope (top 15)) s.heap.objs.size f cdv)))
    (tk : L2N.Takes (cxOf (L2N.CX P w) P w K mg base ["text", "start", "_", "steps", "walk", "x", "y", "step", "step_x", "step_y", "point"] "read_walk" (defScope (top 15)) f cdv A outer s H E) (fun cls d _ H => E cls d H))
    (T : Ta mg) (U : Tk mg) (X : Tx K mg C fI) (GI : FnOk P w K mg base CX0 1 fI fdI ["self", "value"] (spIni K)) (bI : Binds K fdI ["self", "value"] [])
    (Z : Steps K w mg aS) (Z2 : Steps2 K aS) (GR : FnOk P w K mg base CX0 2 fR fdR ["text"] spRP) (AR : At K mg "_read_point" fR fdR ["text"]) (GP : FnOk P w K mg base CX0 3 fP fdP ["value"] (spB ptB)) (AP : At K mg "is_point" fP fdP ["value"]) :
    ∃ t, PSs (cxOf (L2N.CX P w) P w K mg base ["text", "start", "_", "steps", "walk", "x", "y", "step", "step_x", "step_y", "point"] "read_walk" (defScope (top 15)) f cdv A outer s H E) ((defBody (top 15)).drop 1) t ∧
      ∀ (Q : VK) (v mid : V) (a q : List Nat) (H1 : Hp), a.length ≤ 1000 → q.length ≤ 1000 → (∀ l, readR a q = some l → ∀ b xs H', Same H1 H' → H' b = some (.tup xs) → DVs H' xs (l.map ptD) → Q (.ref b) H') →
      (readR a q = none → ∀ dx H', Same H1 H' → XD H' dx (.int 1) → E (.ref C) (some dx) H') →
      t { nx := fun _ H' => Q .non H', rt := Q } [some v, some (.str (S a)), some mid, some (.str (S q)), none, none, none, none, none, none, none] H1 := by
  obtain ⟨es, n, D⟩ := He.dicW_ok Z.d
  obtain ⟨tm, hM⟩ := U.most
  refine ⟨_, (pss_cons (ps_set (i := 4) scRW.nd rfl (Or.inl rfl) (pe_lst (pa_cons (pe_call GR (hr.mono (by decide)) rfl AR.g AR.k AR.b .nil pass0 (pa_cons (pv 1) pa_nil)) pa_nil)))
    (pss_cons (ps_if (PW.pt (pw_or (pt_cmpR op_isN (pe_ix ix_list (pv 4) pe_int (fun _ _ => rfl)) pe_non (nomark _)) (pw_or1 (pt_not (pt_chain op_lt op_lt pe_int (pe_callB call_len_str (by rfl) T.len PySem.boot_len (pa_cons (pv 3) pa_nil)) (pe_glob (v := .int 401) rfl hM ⟨_, rfl⟩)))))) (pss_one (L2N.ps_raise rfl tk (pmk_mkx X.xc.mx GI (hr.mono (by decide)) bI rfl X.gl pe_int))) pss_nil)
    (pss_cons (ps_asg (pe_ix ix_list (pv 4) pe_int (fun _ _ => rfl)) (pg_tup rfl (pgs_cons (pg_name (i := 5) scRW.nd rfl (Or.inl rfl)) (pgs_cons (pg_name (i := 6) scRW.nd rfl (Or.inl rfl)) pgs_nil))))
    (pss_cons (ps_for (passes_of rfl) rfl (pi_str (pv 3)) (pg_name (i := 7) scRW.nd rfl (Or.inl rfl)) (pss_cons (ps_if (pt_cmpR (op_notIn_kd D) (pv 7) (pe_glob (v := .ref aS) rfl Z.g rfl) (by rfl)) (pss_one (L2N.ps_raise rfl tk (pmk_mkx X.xc.mx GI (hr.mono (by decide)) bI rfl X.gl pe_int))) pss_nil)
    (pss_cons (ps_asg (pe_ix ix_kdict (pe_glob (v := .ref aS) rfl Z.g rfl) (pv 7) (fun _ _ => rfl)) (pg_tup rfl (pgs_cons (pg_name (i := 8) scRW.nd rfl (Or.inl rfl)) (pgs_cons (pg_name (i := 9) scRW.nd rfl (Or.inl rfl)) pgs_nil))))
    (pss_cons (ps_par (i := 5) (j := 6) rfl scRW.nd rfl rfl (by decide) rfl rfl (pa_cons (pe_op op_add (pv 5) (pv 8)) (pa_cons (pe_op op_add (pv 6) (pv 9)) pa_nil)) rfl)
    (pss_one (ps_expr (pe_bm PySem.F.plainAttrs_list PySem.F.slot_list_append PySem.F.type_list_append mt_append (pv 4) (pa_cons (pe_tup (pa_cons (pv 5) (pa_cons (pv 6) pa_nil))) pa_nil))))))))
    (pss_cons (ps_if (pt_not (pt_val (pe_callB (cr_all rfl) (by rfl) U.all (by decide +kernel) (pa_cons (pe_lc (own := [("point", 10)]) (g := gName 10) (tt := tYes) rfl scRW.nd (pi_list (pv 4)) (blkOk_by (N := ["text", "start", "_", "steps", "walk", "x", "y", "step", "step_x", "step_y", "point"]) (sc := defScope (top 15)) (by decide +kernel)) (fun _ _ _ _ _ => pg_name (i := 10) scRW.nd rfl (Or.inl rfl)) (fun _ _ _ _ _ => pts_nil) (fun _ _ _ _ _ => pe_call GP hr rfl AP.g AP.k AP.b .nil pass0 (pa_cons (pv 10) pa_nil))) pa_nil)))) (pss_one (L2N.ps_raise rfl tk (pmk_mkx X.xc.mx GI (hr.mono (by decide)) bI rfl X.gl pe_int))) pss_nil)
    (pss_one (ps_ret (pe_tupleOf (by rfl) T.tup (pv 4))))))))), ?_⟩
  intro Q v mid a q H1 la lq qs qn
  refine ⟨_, rfl, a, rfl, la, fun hn H2 s2 => ⟨(by show 1 ≤ sizeLine; decide), fun L nL => ?_⟩, fun p hp b H2 s2 hb => ⟨(by show 1 ≤ sizeLine; decide), fun L nL => ?_⟩⟩
  · refine ⟨_, rfl, L, _, _, .non, rfl, rfl, SqL.of upd_same, rfl, rfl, _, rfl, ?_⟩
    refine ite2 (fun _ => ?_) (fun n => (n (decide_eq_true rfl)).elim)
    exact fun dx n nd => qn (read_none hn) dx _ (fun b o e => stay (stay (s2 b o e) nL) nd) XD.of
  have sL : Same H1 (upd H2 L (.lst [.ref b])) := fun c o e => stay (s2 c o e) nL
  have nL1 : H1 L = none := by
    cases e : H1 L with
    | none => rfl
    | some o =>
      rw [s2 _ _ e] at nL
      cases nL
  have nbL : b ≠ L := fun e => by
    rw [e, nL] at hb
    cases hb
  have hbL : upd H2 L (.lst [.ref b]) b = some (.tup [.int p.1, .int p.2]) := by
    rw [upd_ne nbL]
    exact hb
  refine ⟨_, rfl, L, _, _, .ref b, rfl, rfl, SqL.of upd_same, rfl, rfl, _, rfl, ?_⟩
  refine ite2 (fun z => nomatch (of_decide_eq_true z)) (fun _ => ?_)
  have bad : ∀ {H' : Hp}, Same H1 H' → readR a q = none → ∀ dx n, H' dx = none → E (.ref C) (some dx) (upd H' dx (.xd (xf n (.int 1)))) := fun s' hz dx n nd => qn hz dx _ (fun b o e => stay (s' b o e) nd) XD.of
  refine ⟨_, rfl, S q, rfl, by rw [S_len]; exact size1000 (by omega), _, _, rfl, rfl, _, rfl, ite2 (fun c1 => ?_) (fun c1 => ?_)⟩
  · have c1 : 0 < q.length := by
      have := of_decide_eq_true c1
      rw [S_len] at this
      omega
    refine ⟨_, _, rfl, rfl, _, rfl, ?_⟩
    cases c2 : decide (((S q).length : Int) < 401) with
    | false =>
      have c2 := of_decide_eq_false c2
      rw [S_len] at c2
      exact bad sL (read_long hp (by omega))
    | true =>
      have c2 := of_decide_eq_true c2
      rw [S_len] at c2
      have hR := read_some hp (q := q) ⟨c1, by omega⟩
      refine ⟨_, rfl, L, _, _, .ref b, rfl, rfl, SqL.of upd_same, rfl, b, _, rfl, sqt hbL, rfl, _, _, rfl, _, _, rfl, rfl, ?_⟩
      refine ⟨_, rfl, S q, rfl, for_str (fun i σ H' => ∃ (o7 o8 o9 o10 : Option V) (vs : List V), σ = [some v, some (.str (S a)), some mid, some (.str (S q)), some (.ref L), some (.int (endp p (q.take i)).1), some (.int (endp p (q.take i)).2), o7, o8, o9, o10] ∧
        Same H1 H' ∧ H' L = some (.lst vs) ∧ DVs (del H' L) vs ((p :: path p (q.take i)).map ptD) ∧ (∀ j c, j < i → q[j]? = some c → dirc c = true)) ?_ ?_ ?_⟩
      · refine ⟨_, _, _, _, [.ref b], rfl, sL, upd_same, ?_, fun j c hj => absurd hj (Nat.not_lt_zero _)⟩
        exact .cons (.tup (del_of hbL nbL) (.cons (.int _) (.cons (.int _) .nil))) .nil
      · rintro i c σ H3 hc ⟨o7, o8, o9, o10, vs, rfl, s3, hL, dvs, dirs⟩
        have hq : q[i]? = some c := by
          have : (S q).cps[i]? = some c := hc
          simpa using this
        obtain ⟨r, h1, h2⟩ := nsIn_keys Z.d ⟨#[c]⟩
        rw [dirOf_any, dirOf_c] at h2
        refine ⟨_, rfl, _, r, rfl, rfl, h1, _, rfl, ?_⟩
        rw [h2]
        cases hd : dirc c with
        | false => exact bad s3 (by rw [hR]; exact walk_bad hq hd)
        | true =>
          obtain ⟨t, ht, hsq⟩ := step_c Z2 hd
          refine ⟨_, rfl, aS, _, .ref t, rfl, rfl, ⟨es, n, _, D.at_, D.lit, ht, rfl⟩, t, _, rfl, hsq _, rfl, _, _, rfl, _, _, rfl, rfl, ?_⟩
          refine ⟨_, rfl, _, rfl, _, _, rfl, rfl, _, rfl, _, rfl, _, _, rfl, rfl, _, _, rfl, ?_⟩
          have ln := dvs.length
          rw [List.length_map, List.length_cons, path_len, List.length_take] at ln
          refine ⟨_, rfl, .inl ⟨rfl, _, SqL.of hL⟩, _, rfl, _, rfl, (by show 2 ≤ sizeLine; decide), fun a2 n2 => ⟨L, _, _, rfl, rfl, stay hL n2, Nat.lt_of_le_of_lt (show vs.length ≤ 1001 by omega) (by decide), ?_⟩⟩
          have nea : a2 ≠ L := ne_of2 hL n2
          refine ⟨some (.str ⟨#[c]⟩), some (.int (sxc c)), some (.int (syc c)), o10, vs ++ [.ref a2], ?_, ?_, upd_same, ?_, ?_⟩
          · rw [take_snoc hq, endp_snoc]
            rfl
          · intro b' o e
            have nb : b' ≠ L := fun z => by
              rw [z, nL1] at e
              cases e
            rw [upd_ne nb]
            exact stay (s3 b' o e) n2
          · rw [take_snoc hq, path_snoc]
            show DVs _ _ (((p :: path p (q.take i)) ++ [nxt (endp p (q.take i)) c]).map ptD)
            rw [List.map_append]
            refine dvs_snoc ((dvs.more (same_del fun b o e => stay e n2)).more del_upd) ?_
            refine .tup ?_ (.cons (.int _) (.cons (.int _) .nil))
            refine del_of ?_ nea
            rw [upd_ne nea]
            exact upd_same
          · intro j c' hj hj2
            by_cases e : j = i
            · subst e
              rw [hq] at hj2
              cases hj2
              exact hd
            · exact dirs j c' (by omega) hj2
      · rintro σ H3 ⟨o7, o8, o9, o10, vs, rfl, s3, hL, dvs, dirs⟩
        have sz : (S q).cps.size = q.length := S_len q
        rw [sz, List.take_length] at dvs
        rw [sz] at dirs
        have da : q.all dirc = true := dirs_all fun i c hc => dirs i c (List.getElem?_eq_some_iff.mp hc).1 hc
        have ln := dvs.length
        rw [List.length_map, List.length_cons, path_len] at ln
        refine ⟨_, rfl, L, rfl, ⟨_, SqL.of hL⟩, fun Dd nD => lc_list (K := K) (a := L) (xs := vs) (fun m H' => H' Dd = some (.lst (((((p :: path p q).take m).map onP)).map V.bl)) ∧ H' L = some (.lst vs) ∧ Same H3 H') ⟨upd_same, stay hL nD, fun b o e => stay e nD⟩ ?_ ?_ ?_⟩
        · rintro i H4 hi ⟨h4, h5, s4⟩
          exact SqL.of h5
        · rintro i x H4 hx ⟨h4, h5, s4⟩
          obtain ⟨d, hd, dv⟩ := dvs.at i x hx
          rw [List.getElem?_map] at hd
          obtain ⟨pt, hpt, rfl⟩ := Option.map_eq_some_iff.mp hd
          refine ⟨rfl, _, rfl, x, ptD pt, rfl, (dv.more of_del).more s4, fun H5 s5 => ⟨_, s5 _ _ h4, ?_, ?_, ?_, ?_⟩⟩
          · rw [List.length_map, List.length_map, List.length_take]
            exact Nat.lt_of_le_of_lt (show min i (p :: path p q).length ≤ 1001 by rw [List.length_cons, path_len]; omega) (by decide)
          · rw [upd_same, ptD_on, List.take_add_one, hpt]
            simp only [List.map_append, Option.toList_some, List.map_cons, List.map_nil]
          · have ne : L ≠ Dd := fun e => by
              rw [e, nD] at hL
              cases hL
            rw [upd_ne ne]
            exact s5 _ _ h5
          · intro b o e
            have ne : b ≠ Dd := fun y => by
              rw [y, nD] at e
              cases e
            rw [upd_ne ne]
            exact s5 b o (s4 b o e)
        · rintro H4 ⟨h4, h5, s4⟩
          have tk2 : (p :: path p q).take vs.length = p :: path p q := List.take_of_length_le (by rw [ln, List.length_cons, path_len]; omega)
          rw [tk2] at h4
          refine ⟨Dd, (p :: path p q).map onP, rfl, SqL.of h4, _, rfl, ?_⟩
          have s14 : Same H1 H4 := fun b o e => s4 b o (s3 b o e)
          have ea : ((p :: path p q).map onP).all id = (p :: path p q).all onP := by
            rw [List.all_map]
            rfl
          rw [ea]
          cases hall : (p :: path p q).all onP with
          | false =>
            refine bad s14 ?_
            rw [hR]
            unfold walkIf
            rw [if_pos da, if_neg (by rw [hall]; exact Bool.false_ne_true)]
          | true =>
            have hRR : readR a q = some (p :: path p q) := by
              rw [hR]
              unfold walkIf
              rw [if_pos da, if_pos hall]
            refine ⟨_, rfl, .inl ⟨L, vs, rfl, SqL.of h5, fun b' nb => ?_⟩⟩
            exact qs _ hRR b' _ _ (fun c o e => stay (s14 c o e) nb) upd_same (((dvs.more of_del).more s4).more fun c o e => stay e nb)
  · have c1 : ¬ 0 < q.length := fun z => c1 (decide_eq_true (by rw [S_len]; omega))
    exact ⟨_, rfl, bad sL (read_long hp (by omega))⟩
theorem ok_readw {f fR fP aS : Addr} {fd fdR fdP : FuncData} (F : Fun K "read_walk" "read_walk" (top 15) f fd) (T : Ta mg) (U : Tk mg) (X : Tx K mg C fI) (GI : FnOk P w K mg base CX0 1 fI fdI ["self", "value"] (spIni K)) (bI : Binds K fdI ["self", "value"] [])
    (Z : Steps K w mg aS) (Z2 : Steps2 K aS) (GR : FnOk P w K mg base CX0 2 fR fdR ["text"] spRP) (AR : At K mg "_read_point" fR fdR ["text"]) (GP : FnOk P w K mg base CX0 3 fP fdP ["value"] (spB ptB)) (AP : At K mg "is_point" fP fdP ["value"]) :
    FnOk P w K mg base (L2N.CX P w) 4 f fd ["text"] (spRead K C) := by
  refine okN F scRW (fun vs H Q E h => by obtain ⟨v, o, rfl, _⟩ := h; rfl) (fun cdv A outer s H vs Q E hr h tk => ?_)
  obtain ⟨v, ob, rfl, ask, qs, qn⟩ := h
  obtain ⟨es, n, D⟩ := He.dicW_ok Z.d
  obtain ⟨tm, hM⟩ := U.most
  obtain ⟨t, ht, go⟩ := tail_readw (P := P) (w := w) (K := K) (mg := mg) (base := base) (f := f) (cdv := cdv) (A := A) (outer := outer) (s := s) (H := H) (E := E) hr tk T U X GI bI Z Z2 GR AR GP AP
  refine ⟨_, pss_cons (ps_asg (pe_ifExp (pt_val (pe_callB (CallR.or call_isi call_isX) (by rfl) T.isi (by decide +kernel) (pa_cons (pv 0) (pa_cons (pe_bltn (v := .ty "str") (u := .type "str") (by rfl) T.str (by decide +kernel) rfl) pa_nil)))) (pe_partition (pv 0) pe_str) (pe_tup (pa_cons pe_str (pa_cons pe_str (pa_cons pe_str pa_nil))))) (pg_tup rfl (pgs_cons (pg_name (i := 1) scRW.nd rfl (Or.inl rfl)) (pgs_cons (pg_name (i := 2) scRW.nd rfl (Or.inl rfl)) (pgs_cons (pg_name (i := 3) scRW.nd rfl (Or.inl rfl)) pgs_nil))))) ht, ?_⟩
  rw [ask_is] at qs qn
  cases ask with
  | txt tx lt =>
    obtain ⟨l1, l2, m, hm⟩ := parts_le tx
    refine ⟨_, rfl, .inl ⟨_, .ty "str", .type "str", .type "str", true, rfl, .ty _, .base (.str _), kit_ty (by decide +kernel), _, rfl, _, rfl, ⟨_, rfl⟩, S tx, (" " : Str), rfl, rfl, rfl, by rw [S_len]; exact size1000 (by omega), fun p hp => ?_⟩⟩
    rw [show ((" " : Str)) = S [32] from rfl, hm]
    refine ⟨p, _, rfl, sqt upd_same, rfl, _, _, rfl, _, _, rfl, _, _, rfl, rfl, ?_⟩
    exact go Q _ (.str m) _ _ _ (by omega) (by omega) (fun l hl b xs H' s' => qs l hl b xs H' fun b o e => s' b o (stay e hp)) (fun hz dx H' s' => qn hz dx H' fun b o e => s' b o (stay e hp))
  | dat dv ns =>
    refine ⟨_, rfl, .inl ⟨_, .ty "str", .type _, .type "str", false, rfl, .ty _, ty_of dv, kit_ty (by rw [kit_str, ns]), _, rfl, (by show 3 ≤ sizeLine; decide), fun p hp => ?_⟩⟩
    refine ⟨p, _, rfl, sqt upd_same, rfl, _, _, rfl, _, _, rfl, _, _, rfl, rfl, ?_⟩
    exact go Q _ _ [] [] _ (by decide) (by decide) (fun l hl b xs H' s' => qs l hl b xs H' fun b o e => s' b o (stay e hp)) (fun hz dx H' s' => qn hz dx H' fun b o e => s' b o (stay e hp))
  | exc x c k =>
    refine ⟨_, rfl, .inr ⟨_, _, _, .type "str", false, rfl, x, c, .ty _, k, _, rfl, (by show 3 ≤ sizeLine; decide), fun p hp => ?_⟩⟩
    refine ⟨p, _, rfl, sqt upd_same, rfl, _, _, rfl, _, _, rfl, _, _, rfl, rfl, ?_⟩
    exact go Q _ _ [] [] _ (by decide) (by decide) (fun l hl b xs H' s' => qs l hl b xs H' fun b o e => s' b o (stay e hp)) (fun hz dx H' s' => qn hz dx H' fun b o e => s' b o (stay e hp))
end
end U1
set_option Elab.async false
set_option linter.all false
set_option maxRecDepth 100000
set_option maxHeartbeats 16000000
namespace U1
open PySem PySem.Spec PyProof.Rows L2 Nv SX
abbrev sCell : Stmt := top 19
abbrev sBox : Stmt := top 20
abbrev sTake : Stmt := top 21
/-- the box at p: its counter is at most m -/
def BoxAt (H : Hp) (p : Addr) (m : Int) : Prop := ∃ b0 b1 b2 : Int, H p = some (.lst [.int b0, .int b1, .int b2]) ∧ 0 ≤ b1 ∧ b1 < 2147483648 ∧ 0 ≤ b2 ∧ b2 ≤ m
/-- all but p is as it was -/
def But (p : Addr) (H H' : Hp) : Prop := ∀ c o, c ≠ p → H c = some o → H' c = some o

def spCell (K : PySem.W.Frag) : Sp := fun vs H Q _ => ∃ (a : Addr) (ns : List Int) (k : Int), vs = [.ref a, .int k] ∧ SqL K H a (ns.map V.int) ∧ 0 ≤ k ∧ k ≤ 100 ∧ ∀ n : Int, Q (.int n) H
def spBox : Sp := fun vs H Q _ => ∃ n : Int, vs = [.int n] ∧ ∀ p H', H p = none → Same H H' → BoxAt H' p 0 → Q (.ref p) H'
def spTake : Sp := fun vs H Q _ => ∃ (p : Addr) (m many : Int), vs = [.ref p, .int many] ∧ BoxAt H p m ∧ m ≤ 1000000 ∧ 0 < many ∧ many ≤ 100000 ∧
  ∀ r H', 0 ≤ r → r < many → BoxAt H' p (m + 1) → But p H H' → Q (.int r) H'

structure Txt0 (mg : Str → Option Value) : Prop where
  len : mg "len" = none
  max : mg "max" = none
section
variable {P : Program} {w : World} {K : PySem.W.Frag} {mg : Str → Option Value} {base : Heap}
theorem scCell : FnScope ["_law_script", "_law_k"] ["_law_script", "_law_k"] (defScope sCell) := ⟨rfl, rfl, rfl, by decide +kernel, rfl, by decide +kernel, by decide +kernel⟩
theorem ok_cell {f : Addr} {fd : FuncData} (F : Fun K "_law_cell_at" "_law_cell_at" sCell f fd) (T : Txt0 mg) : FnOk P w K mg base CX0 1 f fd ["_law_script", "_law_k"] (spCell K) := by
  refine F.ok scCell (fun vs H Q E h => ?_) (fun cdv A outer s H vs Q E hr h => ?_)
  · obtain ⟨a, ns, k, rfl, _⟩ := h
    rfl
  · obtain ⟨a, ns, k, rfl, hS, h0, h1, q⟩ := h
    refine ⟨_, pss_one (ps_ret (pe_ifExp (pt_cmpR op_lt (pv 1) (pe_callB call_len_seq (by rfl) T.len PySem.boot_len (pa_cons (pv 0) pa_nil)) (nomark _))
      (pe_ix ix_list (pv 0) (pv 1) (fun _ _ => rfl)) (pe_op op_add (pe_op op_mul pe_int (pv 1)) pe_int))), ?_⟩
    refine ⟨_, rfl, _, rfl, a, _, rfl, .inl hS, _, _, rfl, rfl, _, rfl, ?_⟩
    refine ite2 (fun lt => ?_) (fun _ => ?_)
    · have hl : k < ((ns.map V.int).length : Int) := of_decide_eq_true lt
      rw [List.length_map] at hl
      obtain ⟨j, rfl⟩ : ∃ j : Nat, k = j := ⟨k.toNat, by omega⟩
      have hj : j < ns.length := by omega
      refine ⟨_, rfl, _, rfl, a, _, _, .int ns[j], rfl, rfl, hS, atI_nat ?_, q _⟩
      rw [List.getElem?_map, List.getElem?_eq_getElem hj] <;> rfl
    · exact ⟨_, rfl, _, _, rfl, rfl, .inl ⟨by decide, by decide⟩, _, _, rfl, rfl, q _⟩

theorem scBox : FnScope ["_law_cell"] ["_law_cell"] (defScope sBox) := ⟨rfl, rfl, rfl, by decide +kernel, rfl, by decide +kernel, by decide +kernel⟩
theorem ok_box {f : Addr} {fd : FuncData} (F : Fun K "_law_box" "_law_box" sBox f fd) (T : Txt0 mg) : FnOk P w K mg base CX0 1 f fd ["_law_cell"] spBox := by
  refine F.ok scBox (fun vs H Q E h => ?_) (fun cdv A outer s H vs Q E hr h => ?_)
  · obtain ⟨n, rfl, _⟩ := h
    rfl
  · obtain ⟨n, rfl, q⟩ := h
    refine ⟨_, pss_one (ps_ret (pe_lst (pa_cons (pe_callB (call_max2 rfl) (by rfl) T.max (by decide +kernel) (pa_cons pe_int (pa_cons (pe_op op_sub (pv 0) (pe_op op_pow pe_int pe_int)) pa_nil)))
      (pa_cons (pe_op op_mod (pv 0) pe_int) (pa_cons pe_int pa_nil))))), ?_⟩
    refine ⟨_, rfl, _, _, rfl, rfl, ⟨by decide, by decide, by decide⟩, _, _, rfl, rfl, _, _, rfl, _, rfl, _, _, rfl, rfl, (by show (0 : Int) < 2147483629; decide), (by show 3 ≤ sizeLine; decide), fun p hp => ?_⟩
    refine q p _ hp (fun b o e => by rw [upd_ne (ne_of_none e hp)]; exact e) ⟨_, _, _, upd_same, ?_, ?_, by decide, by decide⟩ <;> omega

theorem scTake : FnScope ["_law_box_here", "_law_many", "_law_digit", "_law_mixed"] ["_law_box_here", "_law_many"] (defScope sTake) := ⟨rfl, rfl, rfl, by decide +kernel, rfl, by decide +kernel, by decide +kernel⟩
theorem ok_take {f : Addr} {fd : FuncData} (F : Fun K "_law_take" "_law_take" sTake f fd) (T : Ta mg) : FnOk P w K mg base CX0 1 f fd ["_law_box_here", "_law_many"] spTake := by
  refine F.ok scTake (fun vs H Q E h => ?_) (fun cdv A outer s H vs Q E hr h => ?_)
  · obtain ⟨p, m, many, rfl, _⟩ := h
    rfl
  · obtain ⟨p, m, many, rfl, ⟨b0, b1, b2, hp, l1, u1, l2, u2⟩, hm, m0, m1, q⟩ := h
    refine ⟨_, pss_cons (ps_if (pt_cmpR op_gt (pe_ix ix_list (pv 0) pe_int (fun _ _ => rfl)) pe_int (nomark _))
        (pss_cons (ps_set (i := 2) scTake.nd rfl (Or.inl rfl) (pe_op op_mod (pe_callTy call_int1 (by rfl) T.int (by decide +kernel) (pa_cons (pe_ix ix_list (pv 0) pe_int (fun _ _ => rfl)) pa_nil)) (pv 1)))
        (pss_cons (ps_asg (pe_op op_fdiv (pe_ix ix_list (pv 0) pe_int (fun _ _ => rfl)) (pv 1)) (pg_sub (pv 0) pe_int set_list))
        (pss_one (ps_ret (pv 2))))) pss_nil)
      (pss_cons (ps_asg (pe_op op_add (pe_ix ix_list (pv 0) pe_int (fun _ _ => rfl)) pe_int) (pg_sub (pv 0) pe_int set_list))
      (pss_cons (ps_set (i := 3) scTake.nd rfl (Or.inl rfl) (pe_op op_mod (pe_op op_pow (pe_callTy call_int1 (by rfl) T.int (by decide +kernel) (pa_cons (pe_op op_add (pe_op op_add (pe_ix ix_list (pv 0) pe_int (fun _ _ => rfl)) (pe_op op_mul pe_int (pe_ix ix_list (pv 0) pe_int (fun _ _ => rfl)))) pe_int) pa_nil)) pe_int) pe_int))
      (pss_cons (ps_set (i := 3) scTake.nd rfl (Or.inl rfl) (pe_op op_mod (pe_op op_pow (pe_callTy call_int1 (by rfl) T.int (by decide +kernel) (pa_cons (pe_op op_add (pv 3) (pe_op op_mul (pe_op op_mul pe_int (pe_ix ix_list (pv 0) pe_int (fun _ _ => rfl))) (pe_ix ix_list (pv 0) pe_int (fun _ _ => rfl)))) pa_nil)) pe_int) pe_int))
      (pss_one (ps_ret (pe_op op_mod (pe_op op_fdiv (pv 3) pe_int) (pv 1))))))), ?_⟩
    have i0 : ∀ {x y z : V}, atI [x, y, z] 0 = some x := rfl
    have i1 : ∀ {x y z : V}, atI [x, y, z] 1 = some y := rfl
    have i2 : ∀ {x y z : V}, atI [x, y, z] 2 = some z := rfl
    refine ⟨_, rfl, p, _, _, _, rfl, rfl, SqL.of hp, i0, _, _, rfl, rfl, _, rfl, ?_⟩
    refine ite2 (fun _ => ?_) (fun _ => ?_)
    · refine ⟨_, rfl, p, _, _, _, rfl, rfl, SqL.of hp, i0, .inl ⟨_, rfl, _, rfl, _, _, rfl, rfl, m0, ?_⟩⟩
      refine ⟨_, rfl, p, _, _, _, rfl, rfl, SqL.of hp, i0, _, rfl, _, _, rfl, rfl, ⟨m0, by omega⟩, _, rfl, p, _, _, 0, rfl, rfl, hp, rfl, ?_⟩
      refine ⟨_, rfl, q _ _ (Int.emod_nonneg _ (by omega)) (Int.emod_lt_of_pos _ m0) ⟨_, _, _, upd_same, l1, u1, l2, by omega⟩ fun c o ne e => ?_⟩
      rw [upd_ne ne]
      exact e
    · refine ⟨_, rfl, p, _, _, _, rfl, rfl, SqL.of hp, i2, _, _, rfl, rfl, _, rfl, p, _, _, 2, rfl, rfl, hp, rfl, ?_⟩
      have hq : upd H p (.lst ([V.int b0, .int b1, .int b2].set 2 (.int (b2 + 1)))) p = some (.lst [.int b0, .int b1, .int (b2 + 1)]) := upd_same
      refine ⟨_, rfl, p, _, _, _, rfl, rfl, SqL.of hq, i1, _, rfl, p, _, _, _, rfl, rfl, SqL.of hq, i2, _, _, rfl, rfl, .inl ⟨by decide, by decide⟩, _, _, rfl, rfl, _, _, rfl, rfl, .inl ⟨_, rfl, _, _, rfl, rfl, ⟨by decide, by decide, by omega⟩, _, _, rfl, rfl, (by show (0 : Int) < 2147483647; decide), ?_⟩⟩
      have z1 : ∀ x : Int, 0 ≤ x % 2147483647 ∧ x % 2147483647 < 2147483647 := fun x => ⟨Int.emod_nonneg _ (by decide), Int.emod_lt_of_pos _ (by decide)⟩
      generalize hn : ((b1 + 15486071 * (b2 + 1) + 307) ^ (5 : Int).toNat) % 2147483647 = n1
      have b1' := z1 ((b1 + 15486071 * (b2 + 1) + 307) ^ (5 : Int).toNat)
      rw [hn] at b1'
      have bb : 0 ≤ 100151 * (b2 + 1) * (b2 + 1) ∧ 100151 * (b2 + 1) * (b2 + 1) ≤ 100151 * 1000001 * 1000001 := by
        have h1 : 0 ≤ 100151 * (b2 + 1) := by omega
        have h2 : 100151 * (b2 + 1) ≤ 100151 * 1000001 := by omega
        refine ⟨Int.mul_nonneg h1 (by omega), ?_⟩
        exact Int.mul_le_mul h2 (by omega) (by omega) (by decide)
      refine ⟨_, rfl, _, rfl, p, _, _, _, rfl, rfl, SqL.of hq, i2, _, _, rfl, rfl, .inl ⟨by decide, by decide⟩, _, rfl, p, _, _, _, rfl, rfl, SqL.of hq, i2, _, _, rfl, rfl, .inr ⟨by omega, by omega⟩, _, _, rfl, rfl, .inl ⟨_, rfl, _, _, rfl, rfl, ⟨by decide, by decide, by omega⟩, _, _, rfl, rfl, (by show (0 : Int) < 2147483587; decide), ?_⟩⟩
      refine ⟨_, rfl, _, _, rfl, rfl, ⟨by decide, by decide⟩, _, rfl, _, _, rfl, rfl, m0, ?_⟩
      refine q _ _ (Int.emod_nonneg _ (by omega)) (Int.emod_lt_of_pos _ m0) ⟨_, _, _, hq, l1, u1, by omega, by omega⟩ fun c o ne e => ?_
      rw [upd_ne ne]
      exact e
theorem scSt : FnScope ["_law_point", "_law_sign", "_law_x", "_law_y"] ["_law_point", "_law_sign"] (defScope (top 22)) := ⟨rfl, rfl, rfl, by decide +kernel, rfl, by decide +kernel, by decide +kernel⟩
def spStep : Sp := fun vs H Q _ => ∃ (a : Addr) (x y : Int) (c : Nat), vs = [.ref a, .str (S [c])] ∧ H a = some (.tup [.int x, .int y]) ∧ dirc c = true ∧ ∀ b H', Same H H' → H' b = some (.tup [.int (x + sxc c), .int (y + syc c)]) → Q (.ref b) H'
theorem ok_step {f : Addr} {fd : FuncData} (F : Fun K "_law_step" "_law_step" (top 22) f fd) : FnOk P w K mg base CX0 1 f fd ["_law_point", "_law_sign"] spStep := by
  refine F.ok scSt (fun vs H Q E h => by obtain ⟨a, x, y, c, rfl, _⟩ := h; rfl) (fun cdv A outer s H vs Q E hr h => ?_)
  obtain ⟨a, x, y, c, rfl, ha, hc, q⟩ := h
  refine ⟨_, pss_cons (ps_asg (pv 0) (pg_tup rfl (pgs_cons (pg_name (i := 2) scSt.nd rfl (Or.inl rfl)) (pgs_cons (pg_name (i := 3) scSt.nd rfl (Or.inl rfl)) pgs_nil))))
    (pss_one (ps_ret (pe_ix ix_list (pe_lst (pa_cons (pe_tup (pa_cons (pe_op op_add (pv 2) pe_int) (pa_cons (pv 3) pa_nil))) (pa_cons (pe_tup (pa_cons (pv 2) (pa_cons (pe_op op_add (pv 3) pe_int) pa_nil)))
      (pa_cons (pe_tup (pa_cons (pe_op op_sub (pv 2) pe_int) (pa_cons (pv 3) pa_nil))) (pa_cons (pe_tup (pa_cons (pv 2) (pa_cons (pe_op op_sub (pv 3) pe_int) pa_nil))) pa_nil)))))
      (pe_bm PySem.F.plainAttrs_str PySem.F.slot_str_index PySem.F.type_str_index mt_sindex pe_str (pa_cons (pv 1) pa_nil)) (fun _ _ => rfl)))), ?_⟩
  refine ⟨_, rfl, a, _, rfl, sqt ha, rfl, _, _, rfl, _, _, rfl, rfl, ?_⟩
  refine ⟨_, rfl, _, _, rfl, rfl, _, rfl, (by show 2 ≤ sizeLine; decide), fun a1 n1 => ⟨_, rfl, _, rfl, _, _, rfl, rfl, (by show 2 ≤ sizeLine; decide), fun a2 n2 => ⟨_, rfl, _, _, rfl, rfl, _, rfl, (by show 2 ≤ sizeLine; decide), fun a3 n3 => ⟨_, rfl, _, rfl, _, _, rfl, rfl, (by show 2 ≤ sizeLine; decide), fun a4 n4 => ⟨(by show 4 ≤ sizeLine; decide), fun l nl => ?_⟩⟩⟩⟩⟩
  have sm : Same H (upd (upd (upd (upd (upd H a1 (.tup [.int (x + 1), .int y])) a2 (.tup [.int x, .int (y + 1)])) a3 (.tup [.int (x - 1), .int y])) a4 (.tup [.int x, .int (y - 1)])) l (.lst [.ref a1, .ref a2, .ref a3, .ref a4])) :=
    fun b o e => stay (stay (stay (stay (stay e n1) n2) n3) n4) nl
  have e0 : x + 0 = x := Int.add_zero x
  have e1 : y + 0 = y := Int.add_zero y
  have e2 : x + -1 = x - 1 := rfl
  have e3 : y + -1 = y - 1 := rfl
  rcases dir_cs hc with rfl | rfl | rfl | rfl
  · refine ⟨rfl, _, rfl, _, _, 0, [], rfl, rfl, by decide +kernel, l, _, _, .ref a1, rfl, rfl, SqL.of upd_same, rfl, q a1 _ sm ?_⟩
    rw [show sxc 114 = 1 from rfl, show syc 114 = 0 from rfl, e1]
    exact stay (stay (stay (stay upd_same n2) n3) n4) nl
  · refine ⟨rfl, _, rfl, _, _, 1, [], rfl, rfl, by decide +kernel, l, _, _, .ref a2, rfl, rfl, SqL.of upd_same, rfl, q a2 _ sm ?_⟩
    rw [show sxc 117 = 0 from rfl, show syc 117 = 1 from rfl, e0]
    exact stay (stay (stay upd_same n3) n4) nl
  · refine ⟨rfl, _, rfl, _, _, 2, [], rfl, rfl, by decide +kernel, l, _, _, .ref a3, rfl, rfl, SqL.of upd_same, rfl, q a3 _ sm ?_⟩
    rw [show sxc 108 = -1 from rfl, show syc 108 = 0 from rfl, e1, e2]
    exact stay (stay upd_same n4) nl
  · refine ⟨rfl, _, rfl, _, _, 3, [], rfl, rfl, by decide +kernel, l, _, _, .ref a4, rfl, rfl, SqL.of upd_same, rfl, q a4 _ sm ?_⟩
    rw [show sxc 100 = 0 from rfl, show syc 100 = -1 from rfl, e0, e3]
    exact stay upd_same nl
structure Tb (mg : Str → Option Value) : Prop where
  rng : mg "range" = none
end
end U1
set_option Elab.async false
set_option linter.all false
set_option maxRecDepth 100000
set_option maxHeartbeats 16000000
namespace U1
open PySem PySem.Spec PyProof.Rows L2 Nv SX
def xOf : PyData → Int
  | .tuple [.int x, .int _] => x
  | _ => 0
def yOf : PyData → Int
  | .tuple [.int _, .int y] => y
  | _ => 0
def wayS (i j : Int) : Option Str := if i = 1 ∧ j = 0 then some "r" else if i = 0 ∧ j = 1 then some "u" else if i = -1 ∧ j = 0 then some "l" else if i = 0 ∧ j = -1 then some "d" else none
def wayV (i j : Int) : V := match wayS i j with
  | some s => .str s
  | none => .non
def hshII (i j : Int) : Int := reduceHash (Builtin.Tuple.tupleHashOf [hashInt i, hashInt j])
def wayE (K : PySem.W.Frag) (e : DictEntry) (i j : Int) (v : Str) : Bool := pairK K (some (some e.key)) i j && (strK (some (some e.val)) v && decide (e.hash = hshII i j))
def wayTab (K : PySem.W.Frag) (a : Addr) : Bool := match K.lookup a with
  | some ⟨.type c, none, .dict es _, sl⟩ => decide (c = "dict") && (sl.isEmpty && (!(a == sysModules) && (match es.toList with
    | [e0, e1, e2, e3] => wayE K e0 1 0 "r" && (wayE K e1 0 1 "u" && (wayE K e2 (-1) 0 "l" && wayE K e3 0 (-1) "d"))
    | _ => false)))
  | _ => false
/-- a written pair, in the heap itself -/
theorem pairK_at {K : PySem.W.Frag} {v : Value} {x y : Int} (h : pairK K (some (some v)) x y = true) : ∃ (t : Addr) (o : Obj) (its : Array Value) (n : Nat) (u1 u2 : Tok), v = .ref t ∧ K.lookup t = some o ∧ o.cls = .type "tuple" ∧ o.data = .seq its n ∧ its.toList = [.int x u1, .int y u2] := by
  unfold pairK at h
  split at h
  · rename_i a hv
    split at h
    · rename_i c dd its n sl e
      split at h
      · rename_i i t1 j t2 e2
        simp only [Bool.and_eq_true, decide_eq_true_eq] at h
        obtain ⟨rfl, rfl, rfl⟩ := h
        have hv : v = .ref a := Option.some.inj (Option.some.inj hv)
        exact ⟨a, _, its, n, t1, t2, hv, e, rfl, rfl, e2⟩
      · cases h
    · cases h
  · cases h
theorem key_at {P : Program} {w : World} {K : PySem.W.Frag} {v : Value} {x y : Int} (h : pairK K (some (some v)) x y = true) : ∃ t, v = .ref t ∧ ∀ hp : Heap, K.In hp → (tupleKind (mixKind P w)).is hp [.inl x, .inl y] t := by
  obtain ⟨t, o, its, n, u1, u2, rfl, l, c, d, e⟩ := pairK_at h
  refine ⟨t, rfl, fun hp X => ⟨o, its, n, X _ _ l, c, d, ?_⟩⟩
  rw [e]
  exact .cons (keyIs_int x u1) (.cons (keyIs_int y u2) .nil)
theorem wayE_of {P : Program} {w : World} {K : PySem.W.Frag} {e : DictEntry} {i j : Int} {v : Str} (h : wayE K e i j v = true) :
    ∃ (t : Addr) (u : Tok), e = entryOfKey (tupleKind (mixKind P w)) ([.inl i, .inl j], t, .str v u) ∧ ∀ hp : Heap, K.In hp → (tupleKind (mixKind P w)).is hp [.inl i, .inl j] t := by
  obtain ⟨eh, ek, ev⟩ := e
  unfold wayE at h
  simp only [Bool.and_eq_true, decide_eq_true_eq] at h
  obtain ⟨h1, h2, h3⟩ := h
  obtain ⟨t, et, k⟩ := key_at (P := P) (w := w) h1
  obtain ⟨u, eu⟩ := strK_of h2
  have eu : ev = .str v u := Option.some.inj (Option.some.inj eu)
  have et : ek = .ref t := et
  have h3 : eh = hshII i j := h3
  refine ⟨t, u, ?_, k⟩
  rw [eu, et, h3]
  rfl
theorem way_of {P : Program} {w : World} {K : PySem.W.Frag} {a : Addr} (h : wayTab K a = true) :
    (a == sysModules) = false ∧ ∃ (t0 t1 t2 t3 : Addr) (u0 u1 u2 u3 : Tok), ∀ hp : Heap, K.In hp → (∃ ob, hp.get? a = some ob ∧ ob.cls = .type "dict" ∧ ob.dict = none) ∧
      hp.DictOfH (tupleKind (mixKind P w)) a [([.inl 1, .inl 0], t0, .str "r" u0), ([.inl 0, .inl 1], t1, .str "u" u1), ([.inl (-1), .inl 0], t2, .str "l" u2), ([.inl 0, .inl (-1)], t3, .str "d" u3)] := by
  unfold wayTab at h
  split at h
  · rename_i c es n sl e
    simp only [Bool.and_eq_true, decide_eq_true_eq, Bool.not_eq_true'] at h
    obtain ⟨rfl, hsl, low, h⟩ := h
    split at h
    · rename_i e0 e1 e2 e3 el
      simp only [Bool.and_eq_true] at h
      obtain ⟨h0, h1, h2, h3⟩ := h
      obtain ⟨t0, u0, r0, k0⟩ := wayE_of (P := P) (w := w) h0
      obtain ⟨t1, u1, r1, k1⟩ := wayE_of (P := P) (w := w) h1
      obtain ⟨t2, u2, r2, k2⟩ := wayE_of (P := P) (w := w) h2
      obtain ⟨t3, u3, r3, k3⟩ := wayE_of (P := P) (w := w) h3
      have hs : sl = #[] := Array.isEmpty_iff.mp hsl
      refine ⟨low, t0, t1, t2, t3, u0, u1, u2, u3, fun hp X => ⟨⟨_, X _ _ e, rfl, rfl⟩, ⟨_, es, n, X _ _ e, ⟨rfl, rfl, hs⟩, rfl, ?_, ?_, ?_⟩⟩⟩
      · rw [el, r0, r1, r2, r3]
        rfl
      · intro x hx
        simp only [List.mem_cons, List.not_mem_nil, or_false] at hx
        rcases hx with rfl | rfl | rfl | rfl
        · exact k0 hp X
        · exact k1 hp X
        · exact k2 hp X
        · exact k3 hp X
      · show [[Sum.inl 1, Sum.inl 0], [Sum.inl 0, Sum.inl 1], [Sum.inl (-1), Sum.inl 0], [(Sum.inl 0 : L2.Key), Sum.inl (-1)]].Nodup
        decide
    · cases h
  · cases h
theorem key_ii {a b i j : Int} : ([Sum.inl a, Sum.inl b] : List L2.Key) = [Sum.inl i, Sum.inl j] ↔ (i = a ∧ j = b) := by
  constructor
  · intro h
    injection h with h1 h2
    injection h2 with h2 h3
    exact ⟨(Sum.inl.inj h1).symm, (Sum.inl.inj h2).symm⟩
  · rintro ⟨rfl, rfl⟩
    rfl
theorem at_way {t0 t1 t2 t3 : Addr} {u0 u1 u2 u3 : Tok} (i j : Int) :
    RelV (wayV i j) (((atKey [([(Sum.inl 1 : L2.Key), .inl 0], t0, Value.str "r" u0), ([.inl 0, .inl 1], t1, .str "u" u1), ([.inl (-1), .inl 0], t2, .str "l" u2), ([.inl 0, .inl (-1)], t3, .str "d" u3)] [.inl i, .inl j]).map (·.2)).getD .none) := by
  unfold wayV wayS atKey
  simp only [List.find?_cons, key_ii]
  by_cases c1 : i = 1 ∧ j = 0
  · rw [if_pos c1, decide_eq_true c1]
    exact ⟨u0, rfl⟩
  · rw [if_neg c1, decide_eq_false c1]
    by_cases c2 : i = 0 ∧ j = 1
    · rw [if_pos c2, decide_eq_true c2]
      exact ⟨u1, rfl⟩
    · rw [if_neg c2, decide_eq_false c2]
      by_cases c3 : i = -1 ∧ j = 0
      · rw [if_pos c3, decide_eq_true c3]
        exact ⟨u2, rfl⟩
      · rw [if_neg c3, decide_eq_false c3]
        by_cases c4 : i = 0 ∧ j = -1
        · rw [if_pos c4, decide_eq_true c4]
          exact ⟨u3, rfl⟩
        · rw [if_neg c4, decide_eq_false c4]
          rfl
def tWay (d : Addr) (td ty : TE) : TE := fun σ H Q => td σ H fun x H1 => x = .ref d ∧ ty σ H1 fun y H2 => ∃ b i j, y = .ref b ∧ H2 b = some (.tup [.int i, .int j]) ∧ Q (wayV i j) H2
theorem pe_way {X : Cx} {o e : Expr} {apos cpos : Pos} {td ty : TE} {d : Addr} (hu : X.A.units + 1 < cLine) (W : wayTab X.K d = true) (ho : PE X o td) (he : PE X e ty) (m : M1 X o "get" apos e cpos) : PE X (.Call (.Attribute o "get" apos) [e] [] cpos) (tWay d td ty) := by
  obtain ⟨low, t0, t1, t2, t3, u0, u1, u2, u3, dd⟩ := way_of (P := X.prog) (w := X.w) W
  refine ⟨fun pins s σ H Q I h => ?_⟩
  refine wpAny_Call_method m.base m.few m.line PySem.F.plainAttrs_dict PySem.F.slot_dict_get PySem.F.type_dict_get (thn (ho.run pins s σ H _ I h) fun u s1 ⟨x, H1, I1, rx, ex, q1⟩ => ?_)
  subst ex
  obtain rfl : u = Value.ref d := rx
  obtain ⟨⟨ob, g1, g2, g3⟩, _⟩ := dd s1.heap I1.kIn
  refine ⟨⟨ob, g1, g2⟩, fun b q => ?_, ?_⟩
  · cases q
    exact ⟨ob, g1, g3⟩
  rw [m.trees]
  refine Calls.callWith_builtin rfl (Calls.evalArgs_plain (Calls.spliced_cons (thn (he.run pins s1 σ H1 _ I1 q1) fun iv s2 ⟨y, H2, I2, ry, b, i, j, ey, hb, q2⟩ => Calls.spliced_nil ?_)))
  subst ey
  cases (show iv = Value.ref b from ry)
  obtain ⟨_, d2⟩ := dd s2.heap I2.kIn
  exact call_meetsIn PySem.F.slot_dict_get d2.typeIs PySem.F.entry_dict_get (PySem.F.args_dict_get_2 _ _) (meetsH_dict_get (tupleKind (mixKind X.prog X.w)) d b low)
    ⟨tupleKind_room_in1 hu, [.inl i, .inl j], _, key_of (ks := [.inl i, .inl j]) I2.hok hb, d2, ⟨wayV i j, H2, I2.tok _, at_way i j, q2⟩⟩
structure Ways (K : PySem.W.Frag) (mg : Str → Option Value) (a : Addr) : Prop where
  g : mg "WAYS" = some (.ref a)
  t : wayTab K a = true
def spWay : Sp := fun vs H Q _ => ∃ (v u : V) (i j k l : Int), vs = [v, u] ∧ DV H v (.tuple [.int i, .int j]) ∧ DV H u (.tuple [.int k, .int l]) ∧ ∀ H', Same H H' → Q (wayV (k - i) (l - j)) H'

/-- over zip of two tuples of one length -/
theorem lc_zipT {K : PySem.W.Frag} {a b : Addr} {xs ys : List V} {g : TG} {tt : TT} {te : TE} {vs : List Nat} {σ : L2.St} {H1 : Hp} {D : Addr} {Qd : Hp → Prop} (hl : xs.length = ys.length) (Pv : Nat → Hp → Prop) (h0 : Pv 0 (upd H1 D (.lst []))) (hq : ∀ i H, Pv i H → SqT K H a xs ∧ SqT K H b ys)
    (hs : ∀ (i : Nat) (x y : V) (T : Addr) (H : Hp), xs[i]? = some x → ys[i]? = some y → Pv i H → H T = none → g (.ref T) (wipe σ vs) (upd H T (.tup [x, y])) fun σ2 H2 => wipe σ2 vs = wipe σ vs ∧ tt σ2 H2 fun b H3 =>
      if b = true then te σ2 H3 fun y H4 => ∃ acc, H4 D = some (.lst acc) ∧ acc.length < sizeLine ∧ Pv (i + 1) (upd H4 D (.lst (acc ++ [y]))) else Pv (i + 1) H3) (hd : ∀ H, Pv xs.length H → Qd H) :
    ∃ W : Nat → Nat → Hp → Prop, (∃ m, W 0 m (upd H1 D (.lst []))) ∧ ∀ i m H, W i m H →
      ((RZ.ItzT K a b).stop i H ∧ Qd H) ∨ ((RZ.ItzT K a b).go i H ∧ ∃ Nx : Hp → Prop, (∀ H', Nx H' → ∃ m', m' < m ∧ W (i + 1) m' H') ∧ ∀ x H', (RZ.ItzT K a b).yld i H x H' → g x (wipe σ vs) H' fun σ2 H2 => wipe σ2 vs = wipe σ vs ∧ tt σ2 H2 fun b H3 =>
        if b = true then te σ2 H3 fun y H4 => ∃ acc, H4 D = some (.lst acc) ∧ acc.length < sizeLine ∧ Nx (upd H4 D (.lst (acc ++ [y]))) else Nx H3) := by
  refine ⟨fun i m H => m = xs.length - i ∧ i ≤ xs.length ∧ Pv i H, ⟨xs.length, rfl, Nat.zero_le _, h0⟩, ?_⟩
  rintro i m H ⟨rfl, hi, p⟩
  obtain ⟨qx, qy⟩ := hq i H p
  by_cases hlt : i < xs.length
  · have hx : xs[i]? = some xs[i] := List.getElem?_eq_getElem hlt
    have hlt2 : i < ys.length := by omega
    have hy : ys[i]? = some ys[i] := List.getElem?_eq_getElem hlt2
    refine .inr ⟨⟨xs, ys, _, _, qx, qy, hx, hy⟩, Pv (i + 1), fun H' p' => ⟨xs.length - (i + 1), by omega, rfl, hlt, p'⟩, fun v H' y => ?_⟩
    obtain ⟨T, x', y', rfl, hT, rfl, f1, f2⟩ := y
    exact hs i x' y' T H (f1 xs qx) (f2 ys qy) p hT
  · have e : i = xs.length := by omega
    subst e
    exact .inl ⟨⟨xs, ys, qx, qy, Or.inl (Nat.le_refl _)⟩, hd H p⟩
/-! ### walks, as data -/
def nbB (a b : PyData) : Bool := (wayS (xOf b - xOf a) (yOf b - yOf a)).isSome
def nbs : List PyData → List Bool
  | a :: b :: r => nbB a b :: nbs (b :: r)
  | _ => []
def walkB : PyData → Bool
  | .tuple ds => decide (2 ≤ ds.length) && (ds.all ptB && (nbs ds).all id)
  | _ => false
theorem nbs_len : ∀ l : List PyData, (nbs l).length = l.length - 1
  | [] => rfl
  | [_] => rfl
  | a :: b :: r => by
    show (nbs (b :: r)).length + 1 = _
    rw [nbs_len (b :: r)]
    simp
theorem nbs_at : ∀ {l : List PyData} {i : Nat} {a b : PyData}, l[i]? = some a → l[i + 1]? = some b → (nbs l)[i]? = some (nbB a b)
  | [], i, a, b, h, _ => by simp at h
  | [x], i, a, b, _, h => by simp at h
  | x :: y :: r, 0, a, b, h1, h2 => by
    simp at h1 h2
    subst h1 h2
    rfl
  | x :: y :: r, i + 1, a, b, h1, h2 => by
    show (nbs (y :: r))[i]? = _
    exact nbs_at (l := y :: r) (by simpa using h1) (by simpa using h2)
/-- what is asked whether it is a walk -/
inductive Wk (K : PySem.W.Frag) (H : Hp) : V → Option PyData → Prop
  | dat {v : V} {d : PyData} (dv : DV H v d) : Wk K H v (some d)
  | exc {a C : Addr} (x : XIn H a C) (c : XCls K C) (k : PySem.W.kitOne K (.ref C) (.type "tuple") = some false) : Wk K H (.ref a) none
def okW : Option PyData → Bool
  | some d => walkB d
  | none => false
theorem Wk.more {K : PySem.W.Frag} {H H' : Hp} {v : V} {o : Option PyData} (k : Same H H') (h : Wk K H v o) : Wk K H' v o := by
  cases h with
  | dat dv => exact .dat (dv.more k)
  | exc x c q => exact .exc (x.more k) c q
structure Tz (mg : Str → Option Value) : Prop where
  zip : mg "zip" = none
def spIW (K : PySem.W.Frag) : Sp := fun vs H Q _ => ∃ v o, vs = [v] ∧ Wk K H v o ∧ (∀ d, o = some d → ∀ ds, d = .tuple ds → ds.length ≤ 1000) ∧ ∀ H', Same H H' → Q (.bl (okW o)) H'
theorem cut_init (xs : List V) (h : 2 ≤ xs.length) : cutV xs none (some (-1)) = xs.take (xs.length - 1) ∧ ¬ (HT.sIx xs.length 0 none = 0 ∧ HT.sIx xs.length xs.length (some (-1)) = xs.length) := by
  have e : HT.sIx xs.length xs.length (some (-1)) = xs.length - 1 := by
    show (if (-1 : Int) < 0 then (-1 + (xs.length : Int)).toNat else min (-1 : Int).toNat xs.length) = _
    rw [if_pos (by decide)]
    omega
  refine ⟨?_, fun z => by rw [e] at z; omega⟩
  unfold cutV
  rw [e]
  rfl
theorem cut_tail (xs : List V) (h : 2 ≤ xs.length) : cutV xs (some 1) none = xs.drop 1 ∧ ¬ (HT.sIx xs.length 0 (some 1) = 0 ∧ HT.sIx xs.length xs.length none = xs.length) := by
  have e : HT.sIx xs.length 0 (some 1) = 1 := by
    show (if (1 : Int) < 0 then (1 + (xs.length : Int)).toNat else min (1 : Int).toNat xs.length) = 1
    rw [if_neg (by decide)]
    have : (1 : Int).toNat = 1 := rfl
    omega
  refine ⟨?_, fun z => by rw [e] at z; omega⟩
  unfold cutV
  rw [e]
  show (xs.drop 1).take (xs.length - 1) = xs.drop 1
  exact List.take_of_length_le (by rw [List.length_drop]; omega)
section
variable {P : Program} {w : World} {K : PySem.W.Frag} {mg : Str → Option Value} {base : Heap}
theorem scWB : FnScope ["point", "other", "x", "y", "far_x", "far_y"] ["point", "other"] (defScope (top 11)) := ⟨rfl, rfl, rfl, by decide +kernel, rfl, by decide +kernel, by decide +kernel⟩
theorem ok_way {f aW : Addr} {fd : FuncData} (F : Fun K "way_between" "way_between" (top 11) f fd) (W : Ways K mg aW) : FnOk P w K mg base CX0 1 f fd ["point", "other"] spWay := by
  refine F.ok scWB (fun vs H Q E h => by obtain ⟨v, u, i, j, k, l, rfl, _⟩ := h; rfl) (fun cdv A outer s H vs Q E hr h => ?_)
  obtain ⟨v, u, i, j, k, l, rfl, dv, du, q⟩ := h
  have hu : (A.deeper (envOfC "way_between" (defScope (top 11)) s.heap.objs.size f cdv)).units + 1 < cLine := by
    have := hr.un
    omega
  refine ⟨_, pss_cons (ps_asg (pe_tup (pa_cons (pv 0) (pa_cons (pv 1) pa_nil))) (pg_tup rfl (pgs_cons (pg_tup rfl (pgs_cons (pg_name (i := 2) scWB.nd rfl (Or.inl rfl)) (pgs_cons (pg_name (i := 3) scWB.nd rfl (Or.inl rfl)) pgs_nil))) (pgs_cons (pg_tup rfl (pgs_cons (pg_name (i := 4) scWB.nd rfl (Or.inl rfl)) (pgs_cons (pg_name (i := 5) scWB.nd rfl (Or.inl rfl)) pgs_nil))) pgs_nil))))
    (pss_one (ps_ret (pe_way hu W.t (pe_glob (v := .ref aW) rfl W.g rfl) (pe_tup (pa_cons (pe_op op_sub (pv 4) (pv 2)) (pa_cons (pe_op op_sub (pv 5) (pv 3)) pa_nil))) ⟨rfl, rfl, rfl, rfl⟩))), ?_⟩
  obtain ⟨a, rfl, ha⟩ := dv_pt dv
  obtain ⟨b, rfl, hb⟩ := dv_pt du
  refine ⟨_, rfl, _, rfl, (by show 2 ≤ sizeLine; decide), fun p hp => ?_⟩
  refine ⟨p, _, rfl, sqt upd_same, rfl, _, _, rfl, ⟨a, _, rfl, sqt (stay ha hp), rfl, _, _, rfl, _, _, rfl, rfl, ?_⟩⟩
  refine ⟨_, _, rfl, ⟨b, _, rfl, sqt (stay hb hp), rfl, _, _, rfl, _, _, rfl, rfl, rfl, ?_⟩⟩
  refine ⟨rfl, _, rfl, _, rfl, _, _, rfl, rfl, _, rfl, _, rfl, _, _, rfl, rfl, (by show 2 ≤ sizeLine; decide), fun p2 hp2 => ⟨p2, _, _, rfl, upd_same, ?_⟩⟩
  exact q _ fun b o e => stay (stay e hp) hp2

theorem scIW : FnScope ["value", "point", "other"] ["value"] (defScope (top 10)) := ⟨rfl, rfl, rfl, by decide +kernel, rfl, by decide +kernel, by decide +kernel⟩
theorem ok_iswalk {f fP fW : Addr} {fd fdP fdW : FuncData} (F : Fun K "is_walk" "is_walk" (top 10) f fd) (T : Ta mg) (U : Tk mg) (Z : Tz mg) (GP : FnOk P w K mg base CX0 3 fP fdP ["value"] (spB ptB)) (AP : At K mg "is_point" fP fdP ["value"])
    (GW : FnOk P w K mg base CX0 1 fW fdW ["point", "other"] spWay) (AW : At K mg "way_between" fW fdW ["point", "other"]) : FnOk P w K mg base CX0 4 f fd ["value"] (spIW K) := by
  refine F.ok scIW (fun vs H Q E h => by obtain ⟨v, o, rfl, _⟩ := h; rfl) (fun cdv A outer s H vs Q E hr h => ?_)
  obtain ⟨v, o, rfl, wk, lb, q⟩ := h
  refine ⟨_, (pss_cons (ps_if (PW.pt (pw_or (pt_not (pt_val (pe_callB (CallR.or call_isi call_isX) (by rfl) T.isi (by decide +kernel) (pa_cons (pv 0) (pa_cons (pe_bltn (v := .ty "tuple") (u := .type "tuple") (by rfl) T.tup (by decide +kernel) rfl) pa_nil))))) (pw_or (pt_cmpR op_lt (pe_callB call_len_seq (by rfl) T.len PySem.boot_len (pa_cons (pv 0) pa_nil)) pe_int (nomark _)) (pw_or1 (pt_not (pt_val (pe_callB (cr_all rfl) (by rfl) U.all (by decide +kernel) (pa_cons (pe_lc (own := [("point", 1)]) (g := gName 1) (tt := tYes) rfl scIW.nd (pi_tup (pv 0)) (blkOk_by (N := ["value", "point", "other"]) (sc := defScope (top 10)) (by decide +kernel)) (fun _ _ _ _ _ => pg_name (i := 1) scIW.nd rfl (Or.inl rfl)) (fun _ _ _ _ _ => pts_nil) (fun _ _ _ _ _ => (pe_call GP (hr.mono (by decide)) rfl AP.g AP.k AP.b .nil pass0 (pa_cons (pv 1) pa_nil)))) pa_nil)))))))) (pss_one (ps_ret pe_bl)) pss_nil)
    (pss_one (ps_ret (pe_callB (cr_all rfl) (by rfl) U.all (by decide +kernel) (pa_cons (pe_lc (own := [("point", 1), ("other", 2)]) (g := gTup K 2 (gCons (gName 1) (gCons (gName 2) gNil))) (tt := tYes) rfl scIW.nd (RZ.pi_zipA (by rfl) Z.zip (pa_cons (pe_slice sl_tup (pv 0) po_none (po_some (pe_un un_neg pe_int))) (pa_cons (pe_slice sl_tup (pv 0) (po_some pe_int) po_none) pa_nil))) (blkOk_by (N := ["value", "point", "other"]) (sc := defScope (top 10)) (by decide +kernel)) (fun _ _ _ _ _ => pg_tup rfl (pgs_cons (pg_name (i := 1) scIW.nd rfl (Or.inl rfl)) (pgs_cons (pg_name (i := 2) scIW.nd rfl (Or.inl rfl)) pgs_nil))) (fun _ _ _ _ _ => pts_nil) (fun _ _ _ _ _ => pe_cmpR op_notN (pe_call GW (hr.mono (by decide)) rfl AW.g AW.k AW.b .nil pass0 (pa_cons (pv 1) (pa_cons (pv 2) pa_nil))) pe_non (nomark _))) pa_nil))))), ?_⟩
  cases wk with
  | exc x c k => exact ⟨_, rfl, .inr ⟨_, _, _, .type "tuple", false, rfl, x, c, .ty _, k, _, rfl, q H fun _ _ e => e⟩⟩
  | @dat _ d dv =>
    refine ⟨_, rfl, .inl ⟨_, .ty "tuple", .type (tyN d), .type "tuple", _, rfl, .ty _, ty_of dv, kit_ty (kit_tuple d), _, rfl, ?_⟩⟩
    cases e : tupish d with
    | false =>
      have := q H fun _ _ e => e
      have e2 : okW (some d) = false := by
        cases d with
        | tuple ds => cases e
        | _ => rfl
      rwa [e2] at this
    | true =>
      obtain ⟨ds, rfl⟩ := tupish_of e
      obtain ⟨a, xs, rfl, h1, r⟩ := dv_tup dv
      have ln := r.length
      have lb := lb _ rfl _ rfl
      refine ⟨_, rfl, a, xs, rfl, .inr (sqt h1), _, _, rfl, rfl, _, rfl, ite2 (fun c1 => ?_) (fun c1 => ?_)⟩
      · have c1 : ¬ 2 ≤ ds.length := by
          have := of_decide_eq_true c1
          omega
        have := q H fun _ _ e => e
        rwa [show okW (some (.tuple ds)) = false from (by show (decide (2 ≤ ds.length) && _) = false; rw [decide_eq_false c1, Bool.false_and])] at this
      · have c1 : 2 ≤ ds.length := by
          have : ¬ ((xs.length : Int) < 2) := fun z => c1 (decide_eq_true z)
          omega
        have ew : okW (some (.tuple ds)) = (ds.all ptB && (nbs ds).all id) := by
          show (decide (2 ≤ ds.length) && _) = _
          rw [decide_eq_true c1, Bool.true_and]
        rw [ew] at q
        refine ⟨_, rfl, a, rfl, ⟨_, sqt h1⟩, fun Dd nD => lc_tup (K := K) (a := a) (xs := xs) (fun m H' => H' Dd = some (.lst (((ds.take m).map ptB).map V.bl)) ∧ Same H H') ⟨upd_same, fun b o e => stay e nD⟩ ?_ ?_ ?_⟩
        · rintro i H4 hi ⟨h4, s4⟩
          exact sqt (s4 _ _ h1)
        · rintro i x H4 hx ⟨h4, s4⟩
          obtain ⟨dx, hd, dvx⟩ := r.at i x hx
          refine ⟨rfl, _, rfl, x, dx, rfl, dvx.more s4, fun H5 s5 => ⟨_, s5 _ _ h4, ?_, ?_, ?_⟩⟩
          · rw [List.length_map, List.length_map, List.length_take]
            exact Nat.lt_of_le_of_lt (show min i ds.length ≤ 1001 by omega) (by decide)
          · rw [upd_same, List.take_add_one, hd]
            simp only [List.map_append, Option.toList_some, List.map_cons, List.map_nil]
          · intro b o e
            have ne : b ≠ Dd := fun y => by
              rw [y, nD] at e
              cases e
            rw [upd_ne ne]
            exact s5 b o (s4 b o e)
        · rintro H4 ⟨h4, s4⟩
          rw [ln, List.take_length] at h4
          refine ⟨Dd, ds.map ptB, rfl, SqL.of h4, _, rfl, ?_⟩
          have ea : (ds.map ptB).all id = ds.all ptB := by
            rw [List.all_map]
            rfl
          rw [ea]
          cases hall : ds.all ptB with
          | false =>
            rw [hall, Bool.false_and] at q
            exact q H4 s4
          | true =>
            rw [hall, Bool.true_and] at q
            have allp := List.all_eq_true.mp hall
            obtain ⟨ec1, en1⟩ := cut_init xs (by omega)
            obtain ⟨ec2, en2⟩ := cut_tail xs (by omega)
            refine ⟨_, rfl, 1, rfl, _, rfl, a, xs, rfl, sqt (s4 _ _ h1), en1, fun p1 n1 => ⟨_, rfl, _, rfl, a, xs, rfl, sqt (stay (s4 _ _ h1) n1), en2, fun p2 n2 => ?_⟩⟩
            rw [ec1] at n2
            rw [ec1, ec2]
            have s5 : Same H (upd (upd H4 p1 (.tup (xs.take (xs.length - 1)))) p2 (.tup (xs.drop 1))) := fun b o e => stay (stay (s4 b o e) n1) n2
            have hp1 : upd (upd H4 p1 (.tup (xs.take (xs.length - 1)))) p2 (.tup (xs.drop 1)) p1 = some (.tup (xs.take (xs.length - 1))) := stay upd_same n2
            have hp2 : upd (upd H4 p1 (.tup (xs.take (xs.length - 1)))) p2 (.tup (xs.drop 1)) p2 = some (.tup (xs.drop 1)) := upd_same
            generalize upd (upd H4 p1 (.tup (xs.take (xs.length - 1)))) p2 (.tup (xs.drop 1)) = H5 at s5 hp1 hp2
            have lt1 : (xs.take (xs.length - 1)).length = xs.length - 1 := by rw [List.length_take]; omega
            refine ⟨p1, p2, _, _, rfl, .inr ⟨sqt hp1, sqt hp2, fun D2 nD2 => lc_zipT (K := K) (a := p1) (b := p2) (xs := xs.take (xs.length - 1)) (ys := xs.drop 1) (by rw [lt1, List.length_drop]) (fun m H' => H' D2 = some (.lst (((nbs ds).take m).map V.bl)) ∧ Same H5 H') ⟨upd_same, fun b o e => stay e nD2⟩ ?_ ?_ ?_⟩⟩
            · rintro i H6 ⟨h6, s6⟩
              exact ⟨sqt (s6 _ _ hp1), sqt (s6 _ _ hp2)⟩
            · rintro i x y TT H6 hx hy ⟨h6, s6⟩ nT
              have hi : i < xs.length - 1 := by
                have := (List.getElem?_eq_some_iff.mp hx).1
                omega
              have hx : xs[i]? = some x := by
                rw [List.getElem?_take_of_lt hi] at hx
                exact hx
              have hy : xs[i + 1]? = some y := by
                rw [List.getElem?_drop, Nat.add_comm] at hy
                exact hy
              obtain ⟨dx, hdx, dvx⟩ := r.at i x hx
              obtain ⟨dy, hdy, dvy⟩ := r.at (i + 1) y hy
              obtain ⟨i1, j1, rfl, _⟩ := pt_of (allp dx (List.mem_of_getElem? hdx))
              obtain ⟨i2, j2, rfl, _⟩ := pt_of (allp dy (List.mem_of_getElem? hdy))
              have st6 : Same H (upd H6 TT (.tup [x, y])) := fun b o e => stay (s6 b o (s5 b o e)) nT
              refine ⟨TT, _, rfl, sqt upd_same, rfl, _, _, rfl, _, _, rfl, rfl, rfl, _, rfl, _, rfl, x, y, i1, j1, i2, j2, rfl, dvx.more st6, dvy.more st6, fun H7 s7 => ⟨rfl, _, s7 _ _ (stay h6 nT), ?_, ?_, ?_⟩⟩
              · rw [List.length_map, List.length_take]
                exact Nat.lt_of_le_of_lt (show min i (nbs ds).length ≤ 1001 by omega) (by decide)
              · rw [upd_same, List.take_add_one, nbs_at hdx hdy]
                have en : (!decide (wayV (i2 - i1) (j2 - j1) = .non)) = nbB (.tuple [.int i1, .int j1]) (.tuple [.int i2, .int j2]) := by
                  show _ = (wayS (i2 - i1) (j2 - j1)).isSome
                  unfold wayV
                  cases wayS (i2 - i1) (j2 - j1) <;> rfl
                rw [en]
                simp only [List.map_append, Option.toList_some, List.map_cons, List.map_nil]
              · intro b o e
                have ne : b ≠ D2 := fun y => by
                  rw [y, nD2] at e
                  cases e
                rw [upd_ne ne]
                exact s7 b o (stay (s6 b o e) nT)
            · rintro H6 ⟨h6, s6⟩
              rw [lt1, List.take_of_length_le (by rw [nbs_len]; omega)] at h6
              exact ⟨D2, nbs ds, rfl, SqL.of h6, q H6 fun b o e => s6 b o (s5 b o e)⟩
/-! ### the text of a walk -/
theorem small_log' {x : Int} (h0 : 0 ≤ x) (h1 : x ≤ 30) : x.natAbs.log2 < 1920 := Nat.lt_of_le_of_lt (Nat.log2_le_self _) (by omega)
def txtOf (p : Pt) (cs : List Nat) : List Nat := TL.numL p.1.toNat ++ (44 :: (TL.numL p.2.toNat ++ (32 :: cs)))
/-- a walk on the paper, by its first point and its signs -/
structure OkP (p : Pt) (cs : List Nat) : Prop where
  on : ∀ x ∈ p :: path p cs, onP x = true
  d : cs.all dirc = true
  l : 1 ≤ cs.length ∧ cs.length ≤ 500
def spWT (K : PySem.W.Frag) (C : Addr) : Sp := fun vs H Q E => ∃ v, vs = [v] ∧
  ((∃ o, Wk K H v o ∧ okW o = false ∧ (∀ d, o = some d → ∀ ds, d = .tuple ds → ds.length ≤ 1000) ∧ ∀ dx H', Same H H' → XD H' dx v → E (.ref C) (some dx) H') ∨
   (∃ (a : Addr) (xs : List V) (p : Pt) (cs : List Nat), v = .ref a ∧ H a = some (.tup xs) ∧ DVs H xs ((p :: path p cs).map ptD) ∧ OkP p cs ∧ (cs.length ≤ 400 → ∀ H', Same H H' → Q (.str (S (txtOf p cs))) H') ∧
     (¬ cs.length ≤ 400 → ∀ dx H', Same H H' → XD H' dx v → E (.ref C) (some dx) H')))
theorem way_c {c : Nat} (h : dirc c = true) : wayS (sxc c) (syc c) = some ⟨#[c]⟩ := by
  rcases dir_cs h with rfl | rfl | rfl | rfl <;> rfl
theorem nbs_path : ∀ (p : Pt) (cs : List Nat), cs.all dirc = true → (nbs ((p :: path p cs).map ptD)).all id = true
  | p, [], _ => rfl
  | p, c :: r, h => by
    have h2 := Bool.and_eq_true_iff.mp (show (dirc c && r.all dirc) = true from h)
    show (nbB (ptD p) (ptD (nxt p c)) && (nbs ((nxt p c :: path (nxt p c) r).map ptD)).all id) = true
    rw [nbs_path _ r h2.2, Bool.and_true]
    show (wayS (p.1 + sxc c - p.1) (p.2 + syc c - p.2)).isSome = true
    rw [show p.1 + sxc c - p.1 = sxc c by omega, show p.2 + syc c - p.2 = syc c by omega, way_c h2.1]
    rfl
theorem OkP.walk {p : Pt} {cs : List Nat} (h : OkP p cs) : walkB (.tuple ((p :: path p cs).map ptD)) = true := by
  show (decide (2 ≤ ((p :: path p cs).map ptD).length) && (((p :: path p cs).map ptD).all ptB && (nbs ((p :: path p cs).map ptD)).all id)) = true
  have l := h.l
  rw [nbs_path p cs h.d, List.length_map, List.length_cons, path_len, decide_eq_true (by omega), List.all_map]
  simp only [Bool.true_and, Bool.and_true]
  exact List.all_eq_true.mpr fun x hx => h.on x hx
theorem path_at : ∀ (p : Pt) (cs : List Nat) (i c : Nat), cs[i]? = some c → (p :: path p cs)[i]? = some (endp p (cs.take i)) ∧ (p :: path p cs)[i + 1]? = some (nxt (endp p (cs.take i)) c)
  | p, [], i, c, h => by simp at h
  | p, d :: r, 0, c, h => by
    simp at h
    subst h
    exact ⟨rfl, rfl⟩
  | p, d :: r, i + 1, c, h => by
    have := path_at (nxt p d) r i c (by simpa using h)
    exact this
structure Ty (K : PySem.W.Frag) (mg : Str → Option Value) (C fI : Addr) : Prop where
  xc : Xc K C fI
  gl : mg "InvalidWalk" = some (.ref C)
theorem scWT : FnScope ["walk", "x", "y", "steps", "point", "other"] ["walk"] (defScope (top 14)) := ⟨rfl, rfl, rfl, by decide +kernel, rfl, by decide +kernel, by decide +kernel⟩
theorem ok_wtext {f fI' fW C fI : Addr} {fd fdI' fdW fdI : FuncData} (F : Fun K "walk_text" "walk_text" (top 14) f fd) (T : Ta mg) (U : Tk mg) (Z : Tz mg) (X : Ty K mg C fI) (GI0 : FnOk P w K mg base CX0 1 fI fdI ["self", "value"] (spIni K)) (bI : Binds K fdI ["self", "value"] [])
    (GI : FnOk P w K mg base CX0 4 fI' fdI' ["value"] (spIW K)) (AI : At K mg "is_walk" fI' fdI' ["value"])
    (GW : FnOk P w K mg base CX0 1 fW fdW ["point", "other"] spWay) (AW : At K mg "way_between" fW fdW ["point", "other"]) : FnOk P w K mg base (L2N.CX P w) 5 f fd ["walk"] (spWT K C) := by
  refine okN F scWT (fun vs H Q E h => by obtain ⟨v, rfl, _⟩ := h; rfl) (fun cdv A outer s H vs Q E hr h tk => ?_)
  obtain ⟨v, rfl, h⟩ := h
  obtain ⟨tm, hM⟩ := U.most
  refine ⟨_, (pss_cons (ps_if (PW.pt (pw_or (pt_not (pt_val (pe_call GI (hr.mono (by decide)) rfl AI.g AI.k AI.b .nil pass0 (pa_cons (pv 0) pa_nil)))) (pw_or1 (pt_cmpR op_gt (pe_callB call_len_seq (by rfl) T.len PySem.boot_len (pa_cons (pv 0) pa_nil)) (pe_glob (v := .int 401) rfl hM ⟨_, rfl⟩) (nomark _))))) (pss_one (L2N.ps_raise rfl tk (pmk_mkx X.xc.mx GI0 (hr.mono (by decide)) bI rfl X.gl (pv 0)))) pss_nil)
    (pss_cons (ps_asg (pe_ix ix_tup (pv 0) pe_int (fun _ _ => rfl)) (pg_tup rfl (pgs_cons (pg_name (i := 1) scWT.nd rfl (Or.inl rfl)) (pgs_cons (pg_name (i := 2) scWT.nd rfl (Or.inl rfl)) pgs_nil))))
    (pss_cons (ps_setLc (i := 3) (own := [("point", 4), ("other", 5)]) (g := gTup K 2 (gCons (gName 4) (gCons (gName 5) gNil))) (tt := tYes) rfl scWT.nd rfl rfl (sw_true rfl rfl rfl (by decide +kernel)) (RZ.pi_zipA (by rfl) Z.zip (pa_cons (pe_slice sl_tup (pv 0) po_none (po_some (pe_un un_neg pe_int))) (pa_cons (pe_slice sl_tup (pv 0) (po_some pe_int) po_none) pa_nil))) (blkOk_by (N := ["walk", "x", "y", "steps", "point", "other"]) (sc := defScope (top 14)) (by decide +kernel)) (fun _ _ _ _ _ => pg_tup rfl (pgs_cons (pg_name (i := 4) scWT.nd rfl (Or.inl rfl)) (pgs_cons (pg_name (i := 5) scWT.nd rfl (Or.inl rfl)) pgs_nil))) (fun _ _ _ _ _ => pts_nil) (fun _ _ _ _ _ => (pe_call GW (hr.mono (by decide)) rfl AW.g AW.k AW.b .nil pass0 (pa_cons (pv 4) (pa_cons (pv 5) pa_nil)))))
    (pss_one (ps_ret (pe_op op_add_str (pe_joined (.cons (pe_fmt (pv 1)) (.cons pe_str (.cons (pe_fmt (pv 2)) (.cons pe_str .nil))))) (pe_join pe_str (pv 3)))))))), ?_⟩
  rcases h with ⟨o, wk, no, lb, qn⟩ | ⟨a, xs, p, cs, rfl, ha, dvs, ok, qs, qn⟩
  · refine ⟨_, rfl, v, o, rfl, wk, lb, fun H1 s1 => ⟨_, rfl, ?_⟩⟩
    rw [no]
    exact ⟨_, rfl, fun dx n nd => qn dx _ (fun b o e => stay (s1 b o e) nd) XD.of⟩
  · have okl := ok.l
    have ln := dvs.length
    rw [List.length_map, List.length_cons, path_len] at ln
    refine ⟨_, rfl, .ref a, some (.tuple ((p :: path p cs).map ptD)), rfl, .dat (.tup ha dvs), ?_, fun H1 s1 => ⟨_, rfl, ?_⟩⟩
    · rintro d hd ds rfl
      cases hd
      rw [List.length_map, List.length_cons, path_len]
      omega
    rw [show okW (some (.tuple ((p :: path p cs).map ptD))) = true from ok.walk]
    have ha1 := s1 _ _ ha
    refine ⟨_, rfl, a, xs, rfl, .inr (sqt ha1), _, _, rfl, rfl, _, rfl, ite2 (fun c1 => ?_) (fun c1 => ?_)⟩
    · have c1 : 401 < (xs.length : Int) := of_decide_eq_true c1
      exact ⟨_, rfl, fun dx n nd => qn (by omega) dx _ (fun b o e => stay (s1 b o e) nd) XD.of⟩
    · have c1 : ¬ 401 < (xs.length : Int) := fun z => c1 (decide_eq_true z)
      have on0 := ok.on p List.mem_cons_self
      obtain ⟨x0, hx0, dv0⟩ : ∃ x0, xs[0]? = some x0 ∧ DV H x0 (ptD p) := by
        cases dvs with
        | cons h r => exact ⟨_, rfl, h⟩
      obtain ⟨b0, rfl, hb0⟩ := dv_pt dv0
      refine ⟨_, rfl, a, _, _, .ref b0, rfl, rfl, sqt ha1, atI_nat hx0, b0, _, rfl, sqt (s1 _ _ hb0), rfl, _, _, rfl, _, _, rfl, rfl, ?_⟩
      obtain ⟨ec1, en1⟩ := cut_init xs (by omega)
      obtain ⟨ec2, en2⟩ := cut_tail xs (by omega)
      refine ⟨_, rfl, 1, rfl, _, rfl, a, xs, rfl, sqt ha1, en1, fun p1 n1 => ⟨_, rfl, _, rfl, a, xs, rfl, sqt (stay ha1 n1), en2, fun p2 n2 => ?_⟩⟩
      rw [ec1] at n2
      rw [ec1, ec2]
      have s5 : Same H (upd (upd H1 p1 (.tup (xs.take (xs.length - 1)))) p2 (.tup (xs.drop 1))) := fun b o e => stay (stay (s1 b o e) n1) n2
      have hp1 : upd (upd H1 p1 (.tup (xs.take (xs.length - 1)))) p2 (.tup (xs.drop 1)) p1 = some (.tup (xs.take (xs.length - 1))) := stay upd_same n2
      have hp2 : upd (upd H1 p1 (.tup (xs.take (xs.length - 1)))) p2 (.tup (xs.drop 1)) p2 = some (.tup (xs.drop 1)) := upd_same
      generalize upd (upd H1 p1 (.tup (xs.take (xs.length - 1)))) p2 (.tup (xs.drop 1)) = H5 at s5 hp1 hp2
      have lt1 : (xs.take (xs.length - 1)).length = xs.length - 1 := by rw [List.length_take]; omega
      refine ⟨p1, p2, _, _, rfl, .inr ⟨sqt hp1, sqt hp2, fun D2 nD2 => lc_zipT (K := K) (a := p1) (b := p2) (xs := xs.take (xs.length - 1)) (ys := xs.drop 1) (by rw [lt1, List.length_drop]) (fun m H' => H' D2 = some (.lst (((cs.take m).map fun c => (⟨#[c]⟩ : Str)).map V.str)) ∧ Same H5 H') ⟨upd_same, fun b o e => stay e nD2⟩ ?_ ?_ ?_⟩⟩
      · rintro i H6 ⟨h6, s6⟩
        exact ⟨sqt (s6 _ _ hp1), sqt (s6 _ _ hp2)⟩
      · rintro i x y TT H6 hx hy ⟨h6, s6⟩ nT
        have hi : i < xs.length - 1 := by
          have := (List.getElem?_eq_some_iff.mp hx).1
          omega
        have hx : xs[i]? = some x := by
          rw [List.getElem?_take_of_lt hi] at hx
          exact hx
        have hy : xs[i + 1]? = some y := by
          rw [List.getElem?_drop, Nat.add_comm] at hy
          exact hy
        obtain ⟨dx, hdx, dvx⟩ := dvs.at i x hx
        obtain ⟨dy, hdy, dvy⟩ := dvs.at (i + 1) y hy
        have hc : cs[i]? = some cs[i] := List.getElem?_eq_getElem (by omega)
        obtain ⟨e1, e2⟩ := path_at p cs i _ hc
        rw [List.getElem?_map, e1] at hdx
        rw [List.getElem?_map, e2] at hdy
        cases hdx
        cases hdy
        have st6 : Same H (upd H6 TT (.tup [x, y])) := fun b o e => stay (s6 b o (s5 b o e)) nT
        have dc : dirc cs[i] = true := List.all_eq_true.mp ok.d _ (List.getElem_mem _)
        refine ⟨TT, _, rfl, sqt upd_same, rfl, _, _, rfl, _, _, rfl, rfl, rfl, _, rfl, _, rfl, x, y, _, _, _, _, rfl, dvx.more st6, dvy.more st6, fun H7 s7 => ⟨_, s7 _ _ (stay h6 nT), ?_, ?_, ?_⟩⟩
        · rw [List.length_map, List.length_map, List.length_take]
          exact Nat.lt_of_le_of_lt (show min i cs.length ≤ 1001 by omega) (by decide)
        · rw [upd_same, List.take_add_one, hc]
          have en : wayV ((endp p (cs.take i)).1 + sxc cs[i] - (endp p (cs.take i)).1) ((endp p (cs.take i)).2 + syc cs[i] - (endp p (cs.take i)).2) = .str ⟨#[cs[i]]⟩ := by
            unfold wayV
            rw [show (endp p (cs.take i)).1 + sxc cs[i] - (endp p (cs.take i)).1 = sxc cs[i] by omega, show (endp p (cs.take i)).2 + syc cs[i] - (endp p (cs.take i)).2 = syc cs[i] by omega, way_c dc]
          simp only [List.map_append, Option.toList_some, List.map_cons, List.map_nil]
          have en' : wayV ((nxt (endp p (cs.take i)) cs[i]).1 - (endp p (cs.take i)).1) ((nxt (endp p (cs.take i)) cs[i]).2 - (endp p (cs.take i)).2) = .str ⟨#[cs[i]]⟩ := en
          rw [en']
        · intro b o e
          have ne : b ≠ D2 := fun y => by
            rw [y, nD2] at e
            cases e
          rw [upd_ne ne]
          exact s7 b o (stay (s6 b o e) nT)
      · rintro H6 ⟨h6, s6⟩
        rw [lt1, List.take_of_length_le (by omega)] at h6
        have o1 := Bool.and_eq_true_iff.mp (show ((decide (0 ≤ p.1) && decide (p.1 ≤ 30)) && (decide (0 ≤ p.2) && decide (p.2 ≤ 30))) = true from on0)
        have o2 := Bool.and_eq_true_iff.mp o1.1
        have o3 := Bool.and_eq_true_iff.mp o1.2
        have x1 : 0 ≤ p.1 := of_decide_eq_true o2.1
        have x2 : p.1 ≤ 30 := of_decide_eq_true o2.2
        have y1 : 0 ≤ p.2 := of_decide_eq_true o3.1
        have y2 : p.2 ≤ 30 := of_decide_eq_true o3.2
        have sX : Str.ofString (toString p.1) = S (TL.numL p.1.toNat) := by
          have := num_S p.1.toNat
          rwa [show ((p.1.toNat : Nat) : Int) = p.1 by omega] at this
        have sY : Str.ofString (toString p.2) = S (TL.numL p.2.toNat) := by
          have := num_S p.2.toNat
          rwa [show ((p.2.toNat : Nat) : Int) = p.2 by omega] at this
        have nl : ∀ n : Fin 31, (TL.numL n.val).length ≤ 2 := by decide +kernel
        have lX : (TL.numL p.1.toNat).length ≤ 2 := nl ⟨p.1.toNat, by omega⟩
        have lY : (TL.numL p.2.toNat).length ≤ 2 := nl ⟨p.2.toNat, by omega⟩
        have e0 : Str.empty = S [] := rfl
        have ec : ("," : Str) = S [44] := rfl
        have es : (" " : Str) = S [32] := rfl
        have ej : Txt.join ("" : Str) (cs.map fun c => (⟨#[c]⟩ : Str)) = S cs := by
          have h1 : (cs.map fun c => (⟨#[c]⟩ : Str)) = (cs.map fun c => [c]).map S := by
            rw [List.map_map]
            rfl
          rw [h1, show ("" : Str) = S [] from rfl, join_S]
          congr 1
          have jl : ∀ l : List Nat, TL.joinL [] (l.map fun c => [c]) = l := by
            intro l
            induction l with
            | nil => rfl
            | cons c r ih =>
              cases r with
              | nil => rfl
              | cons d r2 =>
                show [c] ++ ([] ++ TL.joinL [] ((d :: r2).map fun c => [c])) = _
                rw [ih]
                rfl
          exact jl cs
        refine ⟨_, rfl, .inr ⟨_, rfl, small_log' x1 x2, _, rfl, ?_, _, rfl, ?_, _, rfl, .inr ⟨_, rfl, small_log' y1 y2, _, rfl, ?_, _, rfl, ?_, ⟨_, rfl⟩, _, rfl, _, D2, _, rfl, rfl, .inl (SqL.of h6), ?_, _, _, rfl, rfl, ?_, ?_⟩⟩⟩
        · rw [e0, sX, S_cat]
          exact size1000 (show ([] ++ TL.numL p.1.toNat).length ≤ 1100 by rw [List.nil_append]; omega)
        · rw [e0, sX, ec, S_cat, S_cat]
          exact size1000 (show (([] ++ TL.numL p.1.toNat) ++ [44]).length ≤ 1100 by simp only [List.nil_append, List.length_append, List.length_cons, List.length_nil]; omega)
        · rw [e0, sX, ec, sY, S_cat, S_cat, S_cat]
          exact size1000 (show ((([] ++ TL.numL p.1.toNat) ++ [44]) ++ TL.numL p.2.toNat).length ≤ 1100 by simp only [List.nil_append, List.length_append, List.length_cons, List.length_nil]; omega)
        · rw [e0, sX, ec, sY, es, S_cat, S_cat, S_cat, S_cat]
          exact size1000 (show (((([] ++ TL.numL p.1.toNat) ++ [44]) ++ TL.numL p.2.toNat) ++ [32]).length ≤ 1100 by simp only [List.nil_append, List.length_append, List.length_cons, List.length_nil]; omega)
        · have e : ∀ l : List Nat, ((l.map fun c => (⟨#[c]⟩ : Str)).map (·.length)).sum = l.length := by
            intro l
            induction l with
            | nil => rfl
            | cons c r ih =>
              simp only [List.map_cons, List.sum_cons, List.length_cons, ih]
              have : (⟨#[c]⟩ : Str).length = 1 := rfl
              omega
          rw [e, show (Str.ofString "").length = 0 from rfl]
          omega
        · rw [ej, e0, sX, ec, sY, es, S_cat, S_cat, S_cat, S_cat]
          exact size1000 (show (((([] ++ TL.numL p.1.toNat) ++ [44]) ++ TL.numL p.2.toNat) ++ [32]).length + cs.length ≤ 1100 by simp only [List.nil_append, List.length_append, List.length_cons, List.length_nil]; omega)
        · rw [ej, e0, sX, ec, sY, es, S_cat, S_cat, S_cat, S_cat, S_cat]
          have et : ((((([] ++ TL.numL p.1.toNat) ++ [44]) ++ TL.numL p.2.toNat) ++ [32]) ++ cs) = txtOf p cs := by
            unfold txtOf
            simp only [List.nil_append, List.append_assoc, List.cons_append]
          rw [et]
          exact qs (by omega) H6 fun b o e => s6 b o (s5 b o e)
end
end U1
set_option Elab.async false
set_option linter.all false
set_option maxRecDepth 100000
set_option maxHeartbeats 16000000
namespace U1
open PySem PySem.Spec PyProof.Rows L2 Nv SX
theorem getItem_tuple_whole {prog : Program} {w : World} {A : Around} {E : Value → Shared → Prop} {s : Shared} {t sl : Addr} {items : Array Value} {vl vu : Value} {lo hi : Option Int} {Q : Value → Shared → Prop}
    (ht : IsTup s.heap t items) (hs : s.heap.IsSliceOf sl vl vu Value.none) (pl : IsPart vl lo) (pu : IsPart vu hi) (hw : HT.sIx items.size 0 lo = 0 ∧ HT.sIx items.size items.size hi = items.size) (h : Q (Value.ref t) s) :
    wpAny (model prog w) A (getItem (Value.ref t) (Value.ref sl)) Q E s := by
  obtain ⟨os, hos, hcs, hds⟩ := id hs
  have hTs : s.TypeIs (.ref sl) "slice" := ⟨os, hos, hcs⟩
  refine wpAny_holding (wpAny_bind (wpAny_sequenceKey ht.typeIs (of_decide_eq_true rfl) (wpAny_bind (wpAny_callSpecial?_slot ht.typeIs slot_tuple_getitem (wpAny_call_entry slot_tuple_getitem ht.typeIs entry_tuple_getitem ?_ (args_tuple_getitem _ _))))))
  show wpAny _ _ (Builtin.Tuple.tupleItemsOf _ >>= _) _ _ _
  refine wpAny_bind (tupleItemsOf_ ht (wpAny_bind (wpAny_typeOf hTs ?_)))
  rw [if_pos (of_decide_eq_true rfl)]
  refine wpAny_bind (HT.sliceApplied_gen hs pl pu ?_)
  show wpAny _ _ (if ((((HT.sIx items.size 0 lo : Nat) : Int) == 0 && (1 : Int) == 1 && (HT.sIx items.size items.size hi - HT.sIx items.size 0 lo == items.size)) = true) then _ else _) _ _ _
  rw [if_pos (by rw [hw.1, hw.2]; simp)]
  refine wpAny_bind ?_
  show wpAny _ _ (typeOf _ >>= _) _ _ _
  refine wpAny_bind (wpAny_typeOf ht.typeIs (wpAny_pure ?_))
  rw [if_pos (of_decide_eq_true rfl)]
  exact wpAny_bind (wpAny_rule (wpAny_pure ⟨_, rfl, wpAny_pure h⟩))
/-- a slice of a tuple, the whole one too -/
def rSlW (K : PySem.W.Frag) : V → Option Int → Option Int → Hp → VK → Prop := fun x lo hi H Q => ∃ a xs, x = .ref a ∧ SqT K H a xs ∧
  ((HT.sIx xs.length 0 lo = 0 ∧ HT.sIx xs.length xs.length hi = xs.length) → Q (.ref a) H) ∧ (¬ (HT.sIx xs.length 0 lo = 0 ∧ HT.sIx xs.length xs.length hi = xs.length) → ∀ p, H p = none → Q (.ref p) (upd H p (.tup (cutV xs lo hi))))
theorem sl_tupW {X : Cx} : SlR X (rSlW X.K) := by
  intro pins s σ H x v vl vu lo hi sl Q I rx hs pl pu h
  obtain ⟨a, xs, rfl, hx, q1, q2⟩ := h
  by_cases hw : HT.sIx xs.length 0 lo = 0 ∧ HT.sIx xs.length xs.length hi = xs.length
  · cases (show v = Value.ref a from rx)
    obtain ⟨its, r, ht, hz⟩ := Inv.tuple I hx
    have hlen : its.toArray.size = xs.length := by
      rw [List.size_toArray]
      exact (Vals.length r).symm
    exact ⟨"tuple", "tuple.__getitem__", slot_tuple_getitem.lookup, IsTup.typeIs ht, getItem_tuple_whole ht hs pl pu (by rw [hlen]; exact hw) ⟨.ref a, H, I, rfl, q1 hw⟩⟩
  · exact sl_tup pins s σ H _ v vl vu lo hi sl Q I rx hs pl pu ⟨a, xs, rfl, hx, hw, q2 hw⟩
/-- tuples joined, an empty one on the left too -/
def rCatW (K : PySem.W.Frag) : R2 := fun x y H Q => ∃ a b xs ys, x = .ref a ∧ y = .ref b ∧ SqT K H a xs ∧ SqT K H b ys ∧ xs.length + ys.length ≤ sizeLine ∧ ys ≠ [] ∧ (xs = [] → Q (.ref b) H) ∧ (xs ≠ [] → ∀ p, H p = none → Q (.ref p) (upd H p (.tup (xs ++ ys))))
theorem op_catW {X : Cx} : OpR X (binaryOp .Add) (rCatW X.K) := by
  intro pins s σ H x y v u Q I rx ry h
  obtain ⟨a, b, xs, ys, rfl, rfl, ha, hb, hz, hy, q1, q2⟩ := h
  by_cases hx : xs = []
  · subst hx
    cases (show v = Value.ref a from rx)
    cases (show u = Value.ref b from ry)
    obtain ⟨its, r1, ⟨⟨cls, dd, data, sl⟩, ho, hc, n, hd⟩, _⟩ := Inv.tuple I ha
    obtain ⟨its2, r2, ⟨⟨cls2, dd2, data2, sl2⟩, ho2, hc2, n2, hd2⟩, _⟩ := Inv.tuple I hb
    cases r1
    cases (show cls = .type "tuple" from hc)
    cases (show cls2 = .type "tuple" from hc2)
    cases (show data = _ from hd)
    cases (show data2 = _ from hd2)
    exact concat_meets ⟨_, ho, rfl⟩ ⟨_, ho2, rfl⟩ noFill_tuple_add seq_tuple_add F.slot_tuple_add F.entry_tuple_add (F.args_tuple_add_2 (Value.ref a) (Value.ref b)) (tuple_addW0 a b _ _ n n2 dd dd2 sl sl2 rfl) ⟨ho, ho2, .ref b, H, I, rfl, q1 rfl⟩
  · exact op_catT pins s σ H _ _ v u Q I rx ry ⟨a, b, xs, ys, rfl, rfl, ha, hb, hx, hz, fun z => absurd z hy, fun _ => q2 hx⟩
end U1
set_option Elab.async false
set_option linter.all false
set_option maxRecDepth 100000
set_option maxHeartbeats 16000000
namespace U1
open PySem PySem.Spec PyProof.Rows L2 Nv SX
theorem get_lt {h : Heap} {a : Addr} {o : Obj} (e : h.get? a = some o) : a < h.objs.size := by
  unfold Heap.get? at e
  by_cases g : a < h.objs.size
  · exact g
  · rw [Array.getElem?_eq_none (Nat.not_lt.mp g)] at e
    cases e
theorem sys_lt {X : Cx} {pins : List (Addr × Obj)} {σ : L2.St} {H : Hp} {s : Shared} (I : L2.Inv X pins σ H s) : sysModules < s.heap.objs.size := by
  obtain ⟨o, es, ep, e, _⟩ := I.ok.mod.glob
  obtain ⟨e1, e2⟩ := I.ok.bs _ _ e
  obtain ⟨o', e3⟩ := I.base.there _ _ e1 (I.ok.noex _ _ e)
  have := get_lt e3
  exact Nat.lt_trans (show sysModules < mainGlobals by decide) this
def tLst2 (t : TA) : TE := fun σ H Q => t σ H fun xs H1 => xs.length ≤ sizeLine ∧ ∀ p, H1 p = none → p ≠ sysModules → Q (.ref p) (upd H1 p (.lst xs))
theorem pe_lst2 {X : Cx} {es : List Expr} {t : TA} {pos : Pos} (h : PA X es t) : PE X (.List es pos) (tLst2 t) :=
  ⟨fun pins s σ H Q I hq => wpAny_List_spliced (thn (h.run pos pins s σ H _ I hq) fun us s1 ⟨xs, H1, I1, r, z, q⟩ =>
    ⟨by rw [← Vals.length r]; exact z, .ref s1.heap.objs.size, upd H1 s1.heap.objs.size (.lst xs), Inv.laid I1 (fun b u e => Heap.get?_push_of_some _ e) (Nat.le_refl _) ⟨z, us, 0, r, Heap.get?_push_size s1.heap rfl⟩, rfl,
      q _ (HOk.fresh I1.hok (Nat.le_refl _)) (fun e => by have := sys_lt I1; rw [← e] at this; exact Nat.lt_irrefl _ this)⟩)⟩
theorem call_reprW {X : Cx} (gd : X.A.guards = some []) (hu : X.A.units + 100 < cLine) :
    CallR X (.builtin "repr") (fun xs H Q => ∃ a b z, xs = [.ref a] ∧ H a = some (.lst [.str z, .ref b]) ∧ H b = some (.dK []) ∧ a ≠ sysModules ∧ (PyData.list [.str z, .dict []]).showable = true ∧ (PyData.list [.str z, .dict []]).shown.length ≤ sizeLine ∧ Q (.str (PyData.list [.str z, .dict []]).shown) H) := by
  rintro pins s σ H xs us Q I r ⟨a, b, z, rfl, ha, hb, na, sh, lo, q⟩
  cases r with
  | cons r0 rr =>
    cases rr
    rename_i u
    cases (show u = Value.ref a from r0)
    obtain ⟨_, its, n, rv, e⟩ := I.hok a _ ha
    cases rv with
    | cons r1 r2 =>
      cases r2 with
      | cons r2 r3 =>
        cases r3
        rename_i v1 v2
        obtain ⟨t, rfl⟩ : ∃ t, v1 = .str z t := r1
        obtain ⟨rd, ns⟩ := emp_reads I.hok hb r2
        refine repr_of_reads' (d := .list [.str z, .dict []]) (as := a :: ([] ++ ([b] ++ []))) (.list e rfl rfl (.cons (.str z t) (.cons rd .nil))) sh (fun _ k => ?_) gd (by show X.A.units + (_ + 1) < cLine; have : (PyData.list [.str z, .dict []]).depth ≤ 3 := (by first | exact (show 2 ≤ 3 by decide) | exact (show 1 ≤ 3 by decide) | exact (show 3 ≤ 3 by decide)); omega) (fun _ _ e => e) (fun h' t tk k => ⟨.str _, H, I.kept (t' := tk) k, ⟨t, rfl⟩, q⟩) lo
        rcases List.mem_cons.mp k with k | k
        · exact na k.symm
        · exact ns (by simpa using k)
end U1
set_option Elab.async false
set_option linter.all false
set_option maxRecDepth 100000
set_option maxHeartbeats 4000000
/-! The data layer: what a def does, told over plain data; objects that nobody changes are data, lists that one name alone holds are owned. -/
namespace DL
open PySem PySem.Spec PyProof.Rows L2 Nv

inductive Dat (Ω : Type) where
  | non | bl (b : Bool) | int (i : Int) | str (x : Str)
  | lst (ds : List (Dat Ω)) | tup (ds : List (Dat Ω))
  | dK (ks : List Key) (ds : List (Dat Ω)) | dT (ks : List (List Key)) (ds : List (Dat Ω))
  | obj (o : Ω)
inductive GO (Ω : Type) where
  | ho (o : HO) | ob (o : Ω)
abbrev Gh (Ω : Type) := Addr → Option (GO Ω)
def gup {Ω : Type} (g : Gh Ω) (a : Addr) (o : GO Ω) : Gh Ω := fun b => if b = a then some o else g b
def Le {Ω : Type} (g g' : Gh Ω) : Prop := ∀ a o, g a = some o → g' a = some o
/-- a written tuple -/
def WrT (K : PySem.W.Frag) (a : Addr) (xs : List V) : Prop := ∃ (o : Obj) (its : Array Value) (n : Nat), K.lookup a = some o ∧ o.cls = .type "tuple" ∧ o.data = .seq its n ∧ its.size ≤ sizeLine ∧ Vals xs its.toList
section
variable {Ω : Type}
theorem gup_same {g : Gh Ω} {a : Addr} {o : GO Ω} : gup g a o a = some o := if_pos rfl
theorem gup_ne {g : Gh Ω} {a b : Addr} {o : GO Ω} (h : b ≠ a) : gup g a o b = g b := if_neg h
theorem Le.refl (g : Gh Ω) : Le g g := fun _ _ e => e
theorem Le.tr {a b c : Gh Ω} (h : Le a b) (k : Le b c) : Le a c := fun x o e => k x o (h x o e)
theorem Le.up {g : Gh Ω} {a : Addr} {o : GO Ω} (n : g a = none) : Le g (gup g a o) := fun b u e => by
  rw [gup_ne (fun z => by rw [z, n] at e; cases e)]
  exact e
mutual
inductive DV (K : PySem.W.Frag) (g : Gh Ω) : V → Dat Ω → Prop
  | non : DV K g .non .non
  | bl (b : Bool) : DV K g (.bl b) (.bl b)
  | int (i : Int) : DV K g (.int i) (.int i)
  | str (x : Str) : DV K g (.str x) (.str x)
  | lst {a : Addr} {xs : List V} {ds : List (Dat Ω)} (h : g a = some (.ho (.lst xs))) (r : DVs K g xs ds) : DV K g (.ref a) (.lst ds)
  | tup {a : Addr} {xs : List V} {ds : List (Dat Ω)} (h : g a = some (.ho (.tup xs))) (r : DVs K g xs ds) : DV K g (.ref a) (.tup ds)
  | dK {a : Addr} {ks : List Key} {xs : List V} {ds : List (Dat Ω)} (h : g a = some (.ho (.dK (ks.zip xs)))) (l : ks.length = xs.length) (r : DVs K g xs ds) : DV K g (.ref a) (.dK ks ds)
  | dT {a : Addr} {ks : List (List Key)} {xs : List V} {ds : List (Dat Ω)} (h : g a = some (.ho (.dT (ks.zip xs)))) (l : ks.length = xs.length) (r : DVs K g xs ds) : DV K g (.ref a) (.dT ks ds)
  | obj {a : Addr} {o : Ω} (h : g a = some (.ob o)) : DV K g (.ref a) (.obj o)
inductive DVs (K : PySem.W.Frag) (g : Gh Ω) : List V → List (Dat Ω) → Prop
  | nil : DVs K g [] []
  | cons {x : V} {xs : List V} {d : Dat Ω} {ds : List (Dat Ω)} (h : DV K g x d) (r : DVs K g xs ds) : DVs K g (x :: xs) (d :: ds)
end
variable {K : PySem.W.Frag} {g g' : Gh Ω}
mutual
theorem DV.more (k : Le g g') : ∀ {v : V} {d : Dat Ω}, DV K g v d → DV K g' v d
  | _, _, .non => .non
  | _, _, .bl b => .bl b
  | _, _, .int i => .int i
  | _, _, .str x => .str x
  | _, _, .lst h r => .lst (k _ _ h) (r.more k)
  | _, _, .tup h r => .tup (k _ _ h) (r.more k)
  | _, _, .dK h l r => .dK (k _ _ h) l (r.more k)
  | _, _, .dT h l r => .dT (k _ _ h) l (r.more k)
  | _, _, .obj h => .obj (k _ _ h)
theorem DVs.more (k : Le g g') : ∀ {vs : List V} {ds : List (Dat Ω)}, DVs K g vs ds → DVs K g' vs ds
  | _, _, .nil => .nil
  | _, _, .cons h r => .cons (h.more k) (r.more k)
end
theorem DVs.length : ∀ {vs : List V} {ds : List (Dat Ω)}, DVs K g vs ds → vs.length = ds.length
  | _, _, .nil => rfl
  | _, _, .cons _ r => by rw [List.length_cons, List.length_cons, r.length]
theorem DVs.at : ∀ {vs : List V} {ds : List (Dat Ω)}, DVs K g vs ds → ∀ (i : Nat) (v : V), vs[i]? = some v → ∃ d, ds[i]? = some d ∧ DV K g v d
  | _, _, .cons h r, 0, v, e => ⟨_, rfl, by cases e; exact h⟩
  | _, _, .cons h r, i + 1, v, e => r.at i v (by simpa using e)
theorem DVs.at' : ∀ {vs : List V} {ds : List (Dat Ω)}, DVs K g vs ds → ∀ (i : Nat) (d : Dat Ω), ds[i]? = some d → ∃ v, vs[i]? = some v ∧ DV K g v d
  | _, _, .cons h r, 0, v, e => ⟨_, rfl, by cases e; exact h⟩
  | _, _, .cons h r, i + 1, v, e => r.at' i v (by simpa using e)
theorem DVs.append : ∀ {xs ys : List V} {ds es : List (Dat Ω)}, DVs K g xs ds → DVs K g ys es → DVs K g (xs ++ ys) (ds ++ es)
  | _, _, _, _, .nil, r => r
  | _, _, _, _, .cons h q, r => .cons h (q.append r)
theorem DVs.take : ∀ {xs : List V} {ds : List (Dat Ω)} (n : Nat), DVs K g xs ds → DVs K g (xs.take n) (ds.take n)
  | _, _, 0, _ => .nil
  | _, _, _ + 1, .nil => .nil
  | _, _, n + 1, .cons h r => .cons h (r.take n)
theorem DVs.drop : ∀ {xs : List V} {ds : List (Dat Ω)} (n : Nat), DVs K g xs ds → DVs K g (xs.drop n) (ds.drop n)
  | _, _, 0, r => r
  | _, _, _ + 1, .nil => .nil
  | _, _, n + 1, .cons h r => r.drop n
theorem DVs.reverse : ∀ {xs : List V} {ds : List (Dat Ω)}, DVs K g xs ds → DVs K g xs.reverse ds.reverse
  | _, _, .nil => .nil
  | _, _, .cons h r => by
    rw [List.reverse_cons, List.reverse_cons]
    exact r.reverse.append (.cons h .nil)
theorem DVs.set : ∀ {xs : List V} {ds : List (Dat Ω)} (i : Nat) {v : V} {d : Dat Ω}, DVs K g xs ds → DV K g v d → DVs K g (xs.set i v) (ds.set i d)
  | _, _, _, _, _, .nil, _ => .nil
  | _, _, 0, _, _, .cons h r, k => .cons k r
  | _, _, i + 1, _, _, .cons h r, k => .cons h (r.set i k)

/-- what is true of objects of one's own classes -/
structure Obs (Ω : Type) where
  ok : Gh Ω → HO → Ω → Prop
  mono : ∀ {g g' : Gh Ω} {h : HO} {o : Ω}, Le g g' → ok g h o → ok g' h o
/-- a slot -/
inductive Sl (Ω : Type) where
  | dat (d : Dat Ω) | own (ds : List (Dat Ω)) | ownK (ks : List Key) (ds : List (Dat Ω)) | box (p : Addr) (m : Nat) | raw (v : V)
def Sl.owned : Sl Ω → Bool
  | .own _ => true
  | .ownK _ _ => true
  | .box _ _ => true
  | _ => false
/-- the box at p: its counter is at most m -/
def BoxAt (H : Hp) (p : Addr) (m : Nat) : Prop := ∃ b0 b1 b2 : Int, H p = some (.lst [.int b0, .int b1, .int b2]) ∧ 0 ≤ b1 ∧ b1 < 2147483648 ∧ 0 ≤ b2 ∧ b2 ≤ (m : Int)
def SlOk (K : PySem.W.Frag) (g : Gh Ω) (H : Hp) (v : V) : Sl Ω → Prop
  | .dat d => DV K g v d
  | .own ds => ∃ L vs, v = .ref L ∧ g L = none ∧ H L = some (.lst vs) ∧ DVs K g vs ds
  | .ownK ks ds => ∃ L vs, v = .ref L ∧ g L = none ∧ H L = some (.dK (ks.zip vs)) ∧ ks.length = vs.length ∧ DVs K g vs ds
  | .box p m => v = .ref p ∧ g p = none ∧ BoxAt H p m
  | .raw w => v = w
def isDic : HO → Bool
  | .dK kvs => !kvs.isEmpty
  | .dT kvs => !kvs.isEmpty
  | _ => false
def Real (W : Obs Ω) (g : Gh Ω) (H : Hp) (a : Addr) : GO Ω → Prop
  | .ho o => H a = some o ∨ (isDic o = true ∧ ∃ ob, H a = some (.frz ob o))
  | .ob o => ∃ h, H a = some h ∧ W.ok g h o
abbrev Gam (Ω : Type) := List (Option (Sl Ω))
structure Rep (K : PySem.W.Frag) (W : Obs Ω) (F : Hp) (g : Gh Ω) (γ : Gam Ω) (σ : L2.St) (H : Hp) : Prop where
  len : σ.length = γ.length
  sl : ∀ (i : Nat) s, γ[i]? = some (some s) → ∃ v, σ[i]? = some (some v) ∧ SlOk K g H v s
  apart : ∀ (i j : Nat) s t L, i ≠ j → γ[i]? = some (some s) → γ[j]? = some (some t) → s.owned = true → t.owned = true → σ[i]? = some (some (.ref L)) → σ[j]? = some (some (.ref L)) → False
  sub : ∀ a o, g a = some o → Real W g H a o
  fr : ∀ a o, F a = some o → H a = some o ∧ g a = none
  fo : ∀ (i : Nat) s L, γ[i]? = some (some s) → s.owned = true → σ[i]? = some (some (.ref L)) → F L = none
/-- only new objects came -/
structure Grow (W : Obs Ω) (g : Gh Ω) (H : Hp) (g' : Gh Ω) (H' : Hp) : Prop where
  le : Le g g'
  keep : ∀ a o, H a = some o → H' a = some o
  sub : ∀ a o, g' a = some o → Real W g' H' a o
  new : ∀ a o, H a = some o → g a = none → g' a = none
theorem Real.mono {W : Obs Ω} {g g' : Gh Ω} {H H' : Hp} {a : Addr} {o : GO Ω} (le : Le g g') (k : ∀ o, H a = some o → H' a = some o) (r : Real W g H a o) : Real W g' H' a o := by
  cases o with
  | ho o =>
    rcases r with r | ⟨d, ob, r⟩
    · exact .inl (k _ r)
    · exact .inr ⟨d, ob, k _ r⟩
  | ob o =>
    obtain ⟨h, e, w⟩ := r
    exact ⟨h, k _ e, W.mono le w⟩
theorem Real.sm {W : Obs Ω} {g : Gh Ω} {H : Hp} {a : Addr} {o : GO Ω} (r : Real W g H a o) : ∃ h, H a = some h := by
  cases o with
  | ho o =>
    rcases r with r | ⟨d, ob, r⟩
    · exact ⟨_, r⟩
    · exact ⟨_, r⟩
  | ob o =>
    obtain ⟨h, e, w⟩ := r
    exact ⟨h, e⟩
theorem gnone {W : Obs Ω} {g : Gh Ω} {H : Hp} {p : Addr} (s : ∀ a o, g a = some o → Real W g H a o) (n : H p = none) : g p = none := by
  cases e : g p with
  | none => rfl
  | some u =>
    obtain ⟨h, e2⟩ := (s _ _ e).sm
    rw [n] at e2
    cases e2
theorem Grow.refl {W : Obs Ω} {g : Gh Ω} {H : Hp} (s : ∀ a o, g a = some o → Real W g H a o) : Grow W g H g H := ⟨.refl g, fun _ _ e => e, s, fun _ _ _ e => e⟩
theorem Grow.tr {W : Obs Ω} {a b c : Gh Ω} {H H1 H2 : Hp} (x : Grow W a H b H1) (y : Grow W b H1 c H2) : Grow W a H c H2 :=
  ⟨x.le.tr y.le, fun p o e => y.keep p o (x.keep p o e), y.sub, fun p o e n => y.new p o (x.keep p o e) (x.new p o e n)⟩
/-- a new object, as data -/
theorem Grow.dat {W : Obs Ω} {g : Gh Ω} {H : Hp} {p : Addr} {o : HO} (s : ∀ a o, g a = some o → Real W g H a o) (n : H p = none) : Grow W g H (gup g p (.ho o)) (upd H p o) := by
  have gn : g p = none := gnone s n
  have kp : ∀ a o', H a = some o' → upd H p o a = some o' := fun a o' e => by
    rw [upd_ne (fun z => by rw [z, n] at e; cases e)]
    exact e
  refine ⟨.up gn, kp, fun a u e => ?_, fun a u e na => ?_⟩
  · by_cases ha : a = p
    · subst ha
      rw [gup_same] at e
      cases e
      exact .inl upd_same
    · rw [gup_ne ha] at e
      exact (s a u e).mono (.up gn) fun o' q => kp a o' q
  · rw [gup_ne (fun z => by rw [z, n] at e; cases e)]
    exact na
/-- a new object, not as data -/
theorem Grow.own {W : Obs Ω} {g : Gh Ω} {H : Hp} {p : Addr} {o : HO} (s : ∀ a o, g a = some o → Real W g H a o) (n : H p = none) : Grow W g H g (upd H p o) := by
  have kp : ∀ a o', H a = some o' → upd H p o a = some o' := fun a o' e => by
    rw [upd_ne (fun z => by rw [z, n] at e; cases e)]
    exact e
  exact ⟨.refl g, kp, fun a u e => (s a u e).mono (.refl g) fun o' q => kp a o' q, fun _ _ _ e => e⟩
variable {W : Obs Ω}
theorem SlOk.grow {g g' : Gh Ω} {H H' : Hp} {v : V} {s : Sl Ω} (G : Grow W g H g' H') (h : SlOk K g H v s) : SlOk K g' H' v s := by
  cases s with
  | dat d => exact DV.more G.le h
  | own ds =>
    obtain ⟨L, vs, e, n, hl, r⟩ := h
    exact ⟨L, vs, e, G.new _ _ hl n, G.keep _ _ hl, r.more G.le⟩
  | ownK ks ds =>
    obtain ⟨L, vs, e, n, hl, l, r⟩ := h
    exact ⟨L, vs, e, G.new _ _ hl n, G.keep _ _ hl, l, r.more G.le⟩
  | box p m =>
    obtain ⟨e, n, b0, b1, b2, hp, r⟩ := h
    exact ⟨e, G.new _ _ hp n, b0, b1, b2, G.keep _ _ hp, r⟩
  | raw w => exact h
theorem Rep.grow {F : Hp} {g g' : Gh Ω} {γ : Gam Ω} {σ : L2.St} {H H' : Hp} (R : Rep K W F g γ σ H) (G : Grow W g H g' H') : Rep K W F g' γ σ H' where
  len := R.len
  sl := fun i s e => by
    obtain ⟨v, h1, h2⟩ := R.sl i s e
    exact ⟨v, h1, h2.grow G⟩
  apart := R.apart
  sub := G.sub
  fr := fun a o e => by
    obtain ⟨h1, h2⟩ := R.fr a o e
    exact ⟨G.keep _ _ h1, G.new _ _ h1 h2⟩
  fo := R.fo
/-- a slot is stored -/
theorem Rep.set {F : Hp} {g : Gh Ω} {γ : Gam Ω} {σ : L2.St} {H : Hp} (R : Rep K W F g γ σ H) (i : Nat) {v : V} {s : Sl Ω} (h : SlOk K g H v s)
    (ap : s.owned = true → ∀ L, v = .ref L → F L = none ∧ ∀ (j : Nat) t, γ[j]? = some (some t) → t.owned = true → σ[j]? ≠ some (some (.ref L))) : Rep K W F g (γ.set i (some s)) (σ.set i (some v)) H where
  len := by rw [List.length_set, List.length_set]; exact R.len
  sl := fun j t e => by
    by_cases hj : i = j
    · subst hj
      by_cases hl : i < γ.length
      · rw [List.getElem?_set_self hl] at e
        cases e
        exact ⟨v, by rw [List.getElem?_set_self (by rw [R.len]; exact hl)], h⟩
      · rw [List.getElem?_eq_none (by rw [List.length_set]; omega)] at e
        cases e
    · rw [List.getElem?_set_ne hj] at e
      obtain ⟨u, h1, h2⟩ := R.sl j t e
      exact ⟨u, by rw [List.getElem?_set_ne hj]; exact h1, h2⟩
  apart := fun a b s' t L ne ha hb os ot va vb => by
    by_cases h1 : i = a
    · subst h1
      have hl : i < γ.length := by
        by_cases hl : i < γ.length
        · exact hl
        · rw [List.getElem?_eq_none (by rw [List.length_set]; omega)] at ha
          cases ha
      rw [List.getElem?_set_self hl] at ha
      rw [List.getElem?_set_self (by rw [R.len]; exact hl)] at va
      rw [List.getElem?_set_ne ne] at hb vb
      cases ha
      cases va
      exact (ap os L rfl).2 b t hb ot vb
    · rw [List.getElem?_set_ne h1] at ha va
      by_cases h2 : i = b
      · subst h2
        have hl : i < γ.length := by
          by_cases hl : i < γ.length
          · exact hl
          · rw [List.getElem?_eq_none (by rw [List.length_set]; omega)] at hb
            cases hb
        rw [List.getElem?_set_self hl] at hb
        rw [List.getElem?_set_self (by rw [R.len]; exact hl)] at vb
        cases hb
        cases vb
        exact (ap ot L rfl).2 a s' ha os va
      · rw [List.getElem?_set_ne h2] at hb vb
        exact R.apart a b s' t L ne ha hb os ot va vb
  sub := R.sub
  fr := R.fr
  fo := fun j t L e ot ev => by
    by_cases h1 : i = j
    · subst h1
      have hl : i < γ.length := by
        by_cases hl : i < γ.length
        · exact hl
        · rw [List.getElem?_eq_none (by rw [List.length_set]; omega)] at e
          cases e
      rw [List.getElem?_set_self hl] at e
      rw [List.getElem?_set_self (by rw [R.len]; exact hl)] at ev
      cases e
      cases ev
      exact (ap ot L rfl).1
    · rw [List.getElem?_set_ne h1] at e ev
      exact R.fo j t L e ot ev
/-- a slot that is not owned -/
theorem Rep.setD {F : Hp} {g : Gh Ω} {γ : Gam Ω} {σ : L2.St} {H : Hp} (R : Rep K W F g γ σ H) (i : Nat) {v : V} {d : Dat Ω} (h : DV K g v d) : Rep K W F g (γ.set i (some (.dat d))) (σ.set i (some v)) H :=
  R.set i (s := .dat d) h fun e => nomatch e
/-- a slot is forgotten -/
theorem Rep.unset {F : Hp} {g : Gh Ω} {γ : Gam Ω} {σ : L2.St} {H : Hp} (R : Rep K W F g γ σ H) (i : Nat) (x : Option V) : Rep K W F g (γ.set i none) (σ.set i x) H where
  len := by rw [List.length_set, List.length_set]; exact R.len
  sl := fun j t e => by
    by_cases hj : i = j
    · subst hj
      by_cases hl : i < γ.length
      · rw [List.getElem?_set_self hl] at e
        cases e
      · rw [List.getElem?_eq_none (by rw [List.length_set]; omega)] at e
        cases e
    · rw [List.getElem?_set_ne hj] at e
      obtain ⟨u, h1, h2⟩ := R.sl j t e
      exact ⟨u, by rw [List.getElem?_set_ne hj]; exact h1, h2⟩
  apart := fun a b s' t L ne ha hb os ot va vb => by
    have na : i ≠ a := fun z => by
      subst z
      by_cases hl : i < γ.length
      · rw [List.getElem?_set_self hl] at ha
        cases ha
      · rw [List.getElem?_eq_none (by rw [List.length_set]; omega)] at ha
        cases ha
    have nb : i ≠ b := fun z => by
      subst z
      by_cases hl : i < γ.length
      · rw [List.getElem?_set_self hl] at hb
        cases hb
      · rw [List.getElem?_eq_none (by rw [List.length_set]; omega)] at hb
        cases hb
    rw [List.getElem?_set_ne na] at ha va
    rw [List.getElem?_set_ne nb] at hb vb
    exact R.apart a b s' t L ne ha hb os ot va vb
  sub := R.sub
  fr := R.fr
  fo := fun j t L e ot ev => by
    have nj : i ≠ j := fun z => by
      subst z
      by_cases hl : i < γ.length
      · rw [List.getElem?_set_self hl] at e
        cases e
      · rw [List.getElem?_eq_none (by rw [List.length_set]; omega)] at e
        cases e
    rw [List.getElem?_set_ne nj] at e ev
    exact R.fo j t L e ot ev
/-- an owned list becomes data -/
theorem Rep.demote {F : Hp} {g : Gh Ω} {γ : Gam Ω} {σ : L2.St} {H : Hp} (R : Rep K W F g γ σ H) {i : Nat} {ds : List (Dat Ω)} (e : γ[i]? = some (some (.own ds))) :
    ∃ g' v, Le g g' ∧ Rep K W F g' (γ.set i (some (.dat (.lst ds)))) σ H ∧ σ[i]? = some (some v) ∧ DV K g' v (.lst ds) := by
  obtain ⟨v, hv, L, vs, rfl, gn, hL, r⟩ := R.sl i _ e
  have le : Le g (gup g L (.ho (.lst vs))) := .up gn
  have dv : DV K (gup g L (.ho (.lst vs))) (.ref L) (.lst ds) := .lst gup_same (r.more le)
  have hl : i < γ.length := (List.getElem?_eq_some_iff.mp e).1
  refine ⟨gup g L (.ho (.lst vs)), .ref L, le, ?_, hv, dv⟩
  refine ⟨by rw [List.length_set]; exact R.len, fun j t ej => ?_, fun a b s t L' ne ha hb os ot va vb => ?_, fun a o ea => ?_, fun a o ea => ?_, fun j t L' ej ot vj => ?_⟩
  · by_cases hj : i = j
    · subst hj
      rw [List.getElem?_set_self hl] at ej
      cases ej
      exact ⟨_, hv, dv⟩
    · rw [List.getElem?_set_ne hj] at ej
      obtain ⟨u, h1, h2⟩ := R.sl j t ej
      refine ⟨u, h1, ?_⟩
      cases t with
      | dat d => exact DV.more le h2
      | own es =>
        obtain ⟨L2, ws, rfl, n2, e2, r2⟩ := h2
        have ne : L2 ≠ L := fun z => R.apart i j _ _ L hj e ej rfl rfl hv (by rw [h1, z])
        exact ⟨L2, ws, rfl, by rw [gup_ne ne]; exact n2, e2, r2.more le⟩
      | ownK ks es =>
        obtain ⟨L2, ws, rfl, n2, e2, l2, r2⟩ := h2
        have ne : L2 ≠ L := fun z => R.apart i j _ _ L hj e ej rfl rfl hv (by rw [h1, z])
        exact ⟨L2, ws, rfl, by rw [gup_ne ne]; exact n2, e2, l2, r2.more le⟩
      | box p m =>
        obtain ⟨rfl, n2, b⟩ := h2
        have ne : p ≠ L := fun z => R.apart i j _ _ L hj e ej rfl rfl hv (by rw [h1, z])
        exact ⟨rfl, by rw [gup_ne ne]; exact n2, b⟩
      | raw w => exact h2
  · have na : i ≠ a := fun z => by
      subst z
      rw [List.getElem?_set_self hl] at ha
      cases ha
      cases os
    have nb : i ≠ b := fun z => by
      subst z
      rw [List.getElem?_set_self hl] at hb
      cases hb
      cases ot
    rw [List.getElem?_set_ne na] at ha
    rw [List.getElem?_set_ne nb] at hb
    exact R.apart a b s t L' ne ha hb os ot va vb
  · by_cases hz : a = L
    · subst hz
      rw [gup_same] at ea
      cases ea
      exact .inl hL
    · rw [gup_ne hz] at ea
      exact (R.sub a o ea).mono le fun _ q => q
  · obtain ⟨h1, h2⟩ := R.fr a o ea
    refine ⟨h1, ?_⟩
    have ne : a ≠ L := fun z => by
      have := R.fo i _ L e rfl hv
      rw [z, this] at ea
      cases ea
    rw [gup_ne ne]
    exact h2
  · have nj : i ≠ j := fun z => by
      subst z
      rw [List.getElem?_set_self hl] at ej
      cases ej
      cases ot
    rw [List.getElem?_set_ne nj] at ej
    exact R.fo j t L' ej ot vj
end
end DL
set_option Elab.async false
set_option linter.all false
set_option maxRecDepth 100000
set_option maxHeartbeats 4000000
namespace DL
open PySem PySem.Spec PyProof.Rows L2 Nv

theorem PEc {X : Cx} {e : Expr} {t t' : TE} (h : PE X e t) (k : ∀ σ H Q, t' σ H Q → t σ H Q) : PE X e t' := ⟨fun pins s σ H Q I q => h.run pins s σ H Q I (k σ H Q q)⟩
theorem PTc {X : Cx} {e : Expr} {t t' : TT} (h : PT X e t) (k : ∀ σ H Q, t' σ H Q → t σ H Q) : PT X e t' := ⟨fun pins s σ H Q I q => h.run pins s σ H Q I (k σ H Q q)⟩
theorem PWc {X : Cx} {e : Expr} {t t' : TT} (h : PW X e t) (k : ∀ σ H Q, t' σ H Q → t σ H Q) : PW X e t' := ⟨fun wh pins s σ H Q I q => h.run wh pins s σ H Q I (k σ H Q q)⟩
theorem PSc {X : Cx} {e : Stmt} {t t' : TS} (h : PS X e t) (k : ∀ D σ H, t' D σ H → t D σ H) : PS X e t' := ⟨fun pins s σ H D I q => h.run pins s σ H D I (k D σ H q)⟩
theorem PSsc {X : Cx} {e : List Stmt} {t t' : TS} (h : PSs X e t) (k : ∀ D σ H, t' D σ H → t D σ H) : PSs X e t' := ⟨fun pins s σ H D I q => h.run pins s σ H D I (k D σ H q)⟩

section
variable {Ω : Type} {K : PySem.W.Frag} {W : Obs Ω}
abbrev DE (Ω : Type) := Gam Ω → (Dat Ω → Gam Ω → Prop) → Prop
abbrev DT (Ω : Type) := Gam Ω → (Bool → Gam Ω → Prop) → Prop
def up (K : PySem.W.Frag) (W : Obs Ω) (T : DE Ω) : TE := fun σ H Q => ∃ F g γ q, Rep K W F g γ σ H ∧ T γ q ∧ ∀ d γ' v H' g', q d γ' → Le g g' → Rep K W F g' γ' σ H' → DV K g' v d → Q v H'
/-- a new list, not yet data -/
def upF (K : PySem.W.Frag) (W : Obs Ω) (T : DE Ω) : TE := fun σ H Q => ∃ F g γ q, Rep K W F g γ σ H ∧ T γ q ∧ ∀ zs γ' ws L H1 g1, q (.lst zs) γ' → Le g g1 → Rep K W F g1 γ' σ H1 → H1 L = none → DVs K g1 ws zs → Q (.ref L) (upd H1 L (.lst ws))
def upT (K : PySem.W.Frag) (W : Obs Ω) (T : DT Ω) : TT := fun σ H Q => ∃ F g γ q, Rep K W F g γ σ H ∧ T γ q ∧ ∀ b γ' H' g', q b γ' → Le g g' → Rep K W F g' γ' σ H' → Q b H'
inductive Opn (Ω : Type) where
  | nm (i : Nat) | ex (T : DE Ω)
def upO (K : PySem.W.Frag) (W : Obs Ω) : Opn Ω → TE
  | .nm i => tVar i
  | .ex T => up K W T
def upA (K : PySem.W.Frag) (W : Obs Ω) : List (Opn Ω) → TA
  | [] => tNil
  | A :: As => tCons (upO K W A) (upA K W As)
def known (s : Option (Option (Sl Ω))) : Bool := match s with
  | some (some _) => true
  | _ => false
def evL : List (Opn Ω) → Gam Ω → (List (Option (Dat Ω)) → Gam Ω → Prop) → Prop
  | [], γ, r => r [] γ
  | .nm i :: As, γ, r => match γ[i]? with
    | some (some _) => evL As γ fun os γ' => r (none :: os) γ'
    | _ => False
  | .ex T :: As, γ, r => T γ fun d γ1 => evL As γ1 fun os γ' => r (some d :: os) γ'
/-- a slot's datum -/
def sd : Option (Option (Sl Ω)) → Option (Dat Ω)
  | some (some (.dat d)) => some d
  | some (some (.own ds)) => some (.lst ds)
  | some (some (.ownK ks ds)) => some (.dK ks ds)
  | _ => none
def late : List (Opn Ω) → List (Option (Dat Ω)) → Gam Ω → (List (Dat Ω) → Prop) → Prop
  | [], [], _, r => r []
  | .nm i :: As, _ :: os, γ, r => match sd γ[i]? with
    | some d => late As os γ fun ds => r (d :: ds)
    | none => False
  | .ex _ :: As, some d :: os, γ, r => late As os γ fun ds => r (d :: ds)
  | _, _, _, _ => False
def tOps (As : List (Opn Ω)) (f : List (Dat Ω) → (Dat Ω → Prop) → Prop) : DE Ω := fun γ q => evL As γ fun os γ' => late As os γ' fun ds => f ds fun z => q z γ'
def tOpsT (As : List (Opn Ω)) (f : List (Dat Ω) → (Bool → Prop) → Prop) : DT Ω := fun γ q => evL As γ fun os γ' => late As os γ' fun ds => f ds fun z => q z γ'

/-- a value for the time being -/
inductive PV (K : PySem.W.Frag) (g : Gh Ω) (H : Hp) : V → Dat Ω → Prop
  | dat {v : V} {d : Dat Ω} (h : DV K g v d) : PV K g H v d
  | own {L : Addr} {vs : List V} {ds : List (Dat Ω)} (h : H L = some (.lst vs)) (r : DVs K g vs ds) : PV K g H (.ref L) (.lst ds)
  | ownK {L : Addr} {ks : List Key} {vs : List V} {ds : List (Dat Ω)} (h : H L = some (.dK (ks.zip vs))) (l : ks.length = vs.length) (r : DVs K g vs ds) : PV K g H (.ref L) (.dK ks ds)
inductive PVs (K : PySem.W.Frag) (g : Gh Ω) (H : Hp) : List V → List (Dat Ω) → Prop
  | nil : PVs K g H [] []
  | cons {v : V} {vs : List V} {d : Dat Ω} {ds : List (Dat Ω)} (h : PV K g H v d) (r : PVs K g H vs ds) : PVs K g H (v :: vs) (d :: ds)
/-- what was evaluated -/
inductive Tm (K : PySem.W.Frag) (σ : L2.St) (g : Gh Ω) : List (Opn Ω) → List (Option (Dat Ω)) → List V → Prop
  | nil : Tm K σ g [] [] []
  | nm {i : Nat} {v : V} {As : List (Opn Ω)} {os : List (Option (Dat Ω))} {vs : List V} (h : σ[i]? = some (some v)) (r : Tm K σ g As os vs) : Tm K σ g (.nm i :: As) (none :: os) (v :: vs)
  | ex {T : DE Ω} {d : Dat Ω} {v : V} {As : List (Opn Ω)} {os : List (Option (Dat Ω))} {vs : List V} (h : DV K g v d) (r : Tm K σ g As os vs) : Tm K σ g (.ex T :: As) (some d :: os) (v :: vs)
theorem Rep.at {F : Hp} {g : Gh Ω} {γ : Gam Ω} {σ : L2.St} {H : Hp} (R : Rep K W F g γ σ H) {i : Nat} {s : Sl Ω} (e : γ[i]? = some (some s)) : ∃ v, σ[i]? = some (some v) ∧ SlOk K g H v s := R.sl i s e
theorem ev_sound : ∀ (As : List (Opn Ω)) {F : Hp} {g : Gh Ω} {γ : Gam Ω} {σ : L2.St} {H : Hp} {r : List (Option (Dat Ω)) → Gam Ω → Prop} {Q : List V → Hp → Prop}, Rep K W F g γ σ H → evL As γ r →
    (∀ os γ' g' vs H', r os γ' → Le g g' → Rep K W F g' γ' σ H' → Tm K σ g' As os vs → Q vs H') → upA K W As σ H Q
  | [], F, g, γ, σ, H, r, Q, R, e, k => k [] γ g [] H e (.refl g) R .nil
  | .nm i :: As, F, g, γ, σ, H, r, Q, R, e, k => by
    unfold evL at e
    split at e
    · rename_i s hs
      obtain ⟨v, hv, _⟩ := R.sl i s hs
      exact ⟨v, hv, ev_sound As R e fun os γ' g' vs H' q le R' t => k _ _ _ _ _ q le R' (.nm hv t)⟩
    · exact e.elim
  | .ex T :: As, F, g, γ, σ, H, r, Q, R, e, k => by
    unfold evL at e
    exact ⟨F, g, γ, _, R, e, fun d γ' v H' g' q le R' dv => ev_sound As R' q fun os γ2 g2 vs H2 q2 le2 R2 t => k _ _ _ _ _ q2 (le.tr le2) R2 (.ex (dv.more le2) t)⟩
theorem late_sound : ∀ {As : List (Opn Ω)} {os : List (Option (Dat Ω))} {vs : List V} {F : Hp} {g : Gh Ω} {γ : Gam Ω} {σ : L2.St} {H : Hp} {r : List (Dat Ω) → Prop}, Rep K W F g γ σ H → Tm K σ g As os vs → late As os γ r → ∃ ds, r ds ∧ PVs K g H vs ds
  | _, _, _, F, g, γ, σ, H, r, R, .nil, e => ⟨[], e, .nil⟩
  | _, _, _, F, g, γ, σ, H, r, R, .nm (i := i) hv t, e => by
    unfold late at e
    split at e
    · rename_i d hd
      obtain ⟨ds, q, p⟩ := late_sound R t e
      refine ⟨_, q, .cons ?_ p⟩
      unfold sd at hd
      split at hd
      · rename_i d' hs
        cases hd
        obtain ⟨v', hv', ok⟩ := R.sl i _ hs
        rw [hv] at hv'
        cases hv'
        exact .dat ok
      · rename_i d' hs
        cases hd
        obtain ⟨v', hv', L, ws, rfl, gn, hL, rr⟩ := R.sl i _ hs
        rw [hv] at hv'
        cases hv'
        exact .own hL rr
      · rename_i ks d' hs
        cases hd
        obtain ⟨v', hv', L, ws, rfl, gn, hL, l, rr⟩ := R.sl i _ hs
        rw [hv] at hv'
        cases hv'
        exact .ownK hL l rr
      · cases hd
    · exact e.elim
  | _, _, _, F, g, γ, σ, H, r, R, .ex dv t, e => by
    unfold late at e
    obtain ⟨ds, q, p⟩ := late_sound R t e
    exact ⟨_, q, .cons (.dat dv) p⟩
abbrev Subs (W : Obs Ω) (g : Gh Ω) (H : Hp) : Prop := ∀ a o, g a = some o → Real W g H a o
/-- an operation on data -/
def OpD (K : PySem.W.Frag) (W : Obs Ω) (r : List V → Hp → VK → Prop) (f : List (Dat Ω) → (Dat Ω → Prop) → Prop) : Prop :=
  ∀ g H vs ds k Q, Subs W g H → PVs K g H vs ds → f ds k → (∀ z w g' H', k z → Grow W g H g' H' → DV K g' w z → Q w H') → r vs H Q
/-- .. that gives a new list -/
def OpF (K : PySem.W.Frag) (W : Obs Ω) (r : List V → Hp → VK → Prop) (f : List (Dat Ω) → (Dat Ω → Prop) → Prop) : Prop :=
  ∀ g H vs ds k Q, Subs W g H → PVs K g H vs ds → f ds k → (∀ zs ws L g1 H1, k (.lst zs) → Grow W g H g1 H1 → H1 L = none → DVs K g1 ws zs → Q (.ref L) (upd H1 L (.lst ws))) → r vs H Q
/-- a test -/
def OpT (K : PySem.W.Frag) (W : Obs Ω) (r : List V → Hp → (Bool → Hp → Prop) → Prop) (f : List (Dat Ω) → (Bool → Prop) → Prop) : Prop :=
  ∀ g H vs ds k Q, Subs W g H → PVs K g H vs ds → f ds k → (∀ z g' H', k z → Grow W g H g' H' → Q z H') → r vs H Q
theorem OpF.d {r : List V → Hp → VK → Prop} {f : List (Dat Ω) → (Dat Ω → Prop) → Prop} (h : OpF K W r f) : OpD K W r f := fun g H vs ds k Q s p e q =>
  h g H vs ds k Q s p e fun zs ws L g1 H1 hk G n r => by
    have G2 := Grow.dat (p := L) (o := .lst ws) G.sub n
    exact q _ _ _ _ hk (G.tr G2) (.lst gup_same (r.more G2.le))
section
variable {X : Cx} {e : Expr} {As : List (Opn Ω)} {r : List V → Hp → VK → Prop} {rb : List V → Hp → (Bool → Hp → Prop) → Prop} {f : List (Dat Ω) → (Dat Ω → Prop) → Prop} {fb : List (Dat Ω) → (Bool → Prop) → Prop} {T : DE Ω}
theorem pe_ops (hp : PE X e (fun σ H Q => upA K W As σ H fun vs H' => r vs H' Q)) (ho : OpD K W r f) : PE X e (up K W (tOps As f)) := PEc hp fun σ H Q ⟨F, g, γ, q, R, t, k⟩ =>
  ev_sound As R t fun os γ' g' vs H' l le R' tm => by
    obtain ⟨ds, hf, pv⟩ := late_sound R' tm l
    exact ho g' H' vs ds _ Q R'.sub pv hf fun z w g2 H2 hz G dv => k z γ' w H2 g2 hz (le.tr G.le) (R'.grow G) dv
theorem pf_ops (hp : PE X e (fun σ H Q => upA K W As σ H fun vs H' => r vs H' Q)) (ho : OpF K W r f) : PE X e (upF K W (tOps As f)) := PEc hp fun σ H Q ⟨F, g, γ, q, R, t, k⟩ =>
  ev_sound As R t fun os γ' g' vs H' l le R' tm => by
    obtain ⟨ds, hf, pv⟩ := late_sound R' tm l
    exact ho g' H' vs ds _ Q R'.sub pv hf fun zs ws L g2 H2 hz G n dvs => k zs γ' ws L H2 g2 hz (le.tr G.le) (R'.grow G) n dvs
theorem pt_ops (hp : PT X e (fun σ H Q => upA K W As σ H fun vs H' => rb vs H' Q)) (ho : OpT K W rb fb) : PT X e (upT K W (tOpsT As fb)) := PTc hp fun σ H Q ⟨F, g, γ, q, R, t, k⟩ =>
  ev_sound As R t fun os γ' g' vs H' l le R' tm => by
    obtain ⟨ds, hf, pv⟩ := late_sound R' tm l
    exact ho g' H' vs ds _ Q R'.sub pv hf fun z g2 H2 hz G => k z γ' H2 g2 hz (le.tr G.le) (R'.grow G)
theorem pf_pe (h : PE X e (upF K W T)) : PE X e (up K W T) := PEc h fun σ H Q ⟨F, g, γ, q, R, t, k⟩ => ⟨F, g, γ, q, R, t, fun zs γ' ws L H1 g1 hq le R1 n r => by
  have G2 := Grow.dat (p := L) (o := .lst ws) R1.sub n
  exact k _ γ' _ _ _ hq (le.tr G2.le) (R1.grow G2) (.lst gup_same (r.more G2.le))⟩
/-! ### names, constants -/
def tC' (d : Dat Ω) : DE Ω := fun γ q => q d γ
theorem pd_int {i j pos} : PE X (.Constant (.int i) j pos) (up K W (tC' (.int i))) := PEc pe_int fun σ H Q ⟨F, g, γ, q, R, t, k⟩ => k _ γ _ H g t (.refl g) R (.int i)
theorem pd_str {x j pos} : PE X (.Constant (.str x) j pos) (up K W (tC' (.str x))) := PEc pe_str fun σ H Q ⟨F, g, γ, q, R, t, k⟩ => k _ γ _ H g t (.refl g) R (.str x)
theorem pd_bl {b j pos} : PE X (.Constant (.bool b) j pos) (up K W (tC' (.bl b))) := PEc pe_bl fun σ H Q ⟨F, g, γ, q, R, t, k⟩ => k _ γ _ H g t (.refl g) R (.bl b)
theorem pd_non {j pos} : PE X (.Constant .none j pos) (up K W (tC' .non)) := PEc pe_non fun σ H Q ⟨F, g, γ, q, R, t, k⟩ => k _ γ _ H g t (.refl g) R .non
/-- a name's value, to be kept -/
def tN (i : Nat) : DE Ω := fun γ q => match γ[i]? with
  | some (some (.dat d)) => q d γ
  | some (some (.own ds)) => q (.lst ds) (γ.set i (some (.dat (.lst ds))))
  | _ => False
theorem pd_name {i : Nat} (h : PE X e (tVar i)) : PE X e (up K W (tN i)) := PEc h fun σ H Q ⟨F, g, γ, q, R, t, k⟩ => by
  unfold tN at t
  split at t
  · rename_i d hd
    obtain ⟨v, hv, ok⟩ := R.sl i _ hd
    exact ⟨v, hv, k _ γ _ H g t (.refl g) R ok⟩
  · rename_i ds hd
    obtain ⟨g', v, le, R', hv, dv⟩ := R.demote hd
    exact ⟨v, hv, k _ _ _ H g' t le R' dv⟩
  · exact t.elim
theorem po_name {i : Nat} (h : PE X e (tVar i)) : PE X e (upO K W (.nm i)) := h
theorem po_ex (h : PE X e (up K W T)) : PE X e (upO K W (.ex T)) := h
theorem pa0 : PA X [] (upA K W []) := pa_nil
theorem pa1 {A : Opn Ω} {es : List Expr} (h : PE X e (upO K W A)) (t : PA X es (upA K W As)) (hs : starEach (e :: es) X.env = (false, eval e X.env) :: starEach es X.env := by rfl) : PA X (e :: es) (upA K W (A :: As)) := pa_cons h t hs
end
end
end DL
set_option Elab.async false
set_option linter.all false
set_option maxRecDepth 100000
set_option maxHeartbeats 4000000
namespace DL
open PySem PySem.Spec PyProof.Rows L2 Nv
/-! ### tuples: whole slices, empty ones joined -/
theorem getItem_tuple_whole {prog : Program} {w : World} {A : Around} {E : Value → Shared → Prop} {s : Shared} {t sl : Addr} {items : Array Value} {vl vu : Value} {lo hi : Option Int} {Q : Value → Shared → Prop}
    (ht : IsTup s.heap t items) (hs : s.heap.IsSliceOf sl vl vu Value.none) (pl : IsPart vl lo) (pu : IsPart vu hi) (hw : HT.sIx items.size 0 lo = 0 ∧ HT.sIx items.size items.size hi = items.size) (h : Q (Value.ref t) s) :
    wpAny (model prog w) A (getItem (Value.ref t) (Value.ref sl)) Q E s := by
  obtain ⟨os, hos, hcs, hds⟩ := id hs
  have hTs : s.TypeIs (.ref sl) "slice" := ⟨os, hos, hcs⟩
  refine wpAny_holding (wpAny_bind (wpAny_sequenceKey ht.typeIs (of_decide_eq_true rfl) (wpAny_bind (wpAny_callSpecial?_slot ht.typeIs slot_tuple_getitem (wpAny_call_entry slot_tuple_getitem ht.typeIs entry_tuple_getitem ?_ (args_tuple_getitem _ _))))))
  show wpAny _ _ (Builtin.Tuple.tupleItemsOf _ >>= _) _ _ _
  refine wpAny_bind (tupleItemsOf_ ht (wpAny_bind (wpAny_typeOf hTs ?_)))
  rw [if_pos (of_decide_eq_true rfl)]
  refine wpAny_bind (HT.sliceApplied_gen hs pl pu ?_)
  show wpAny _ _ (if ((((HT.sIx items.size 0 lo : Nat) : Int) == 0 && (1 : Int) == 1 && (HT.sIx items.size items.size hi - HT.sIx items.size 0 lo == items.size)) = true) then _ else _) _ _ _
  rw [if_pos (by rw [hw.1, hw.2]; simp)]
  refine wpAny_bind ?_
  show wpAny _ _ (typeOf _ >>= _) _ _ _
  refine wpAny_bind (wpAny_typeOf ht.typeIs (wpAny_pure ?_))
  rw [if_pos (of_decide_eq_true rfl)]
  exact wpAny_bind (wpAny_rule (wpAny_pure ⟨_, rfl, wpAny_pure h⟩))
/-- a slice of a tuple, the whole one too -/
def rSlW (K : PySem.W.Frag) : V → Option Int → Option Int → Hp → VK → Prop := fun x lo hi H Q => ∃ a xs, x = .ref a ∧ SqT K H a xs ∧
  ((HT.sIx xs.length 0 lo = 0 ∧ HT.sIx xs.length xs.length hi = xs.length) → Q (.ref a) H) ∧ (¬ (HT.sIx xs.length 0 lo = 0 ∧ HT.sIx xs.length xs.length hi = xs.length) → ∀ p, H p = none → Q (.ref p) (upd H p (.tup (cutV xs lo hi))))
theorem sl_tupW {X : Cx} : SlR X (rSlW X.K) := by
  intro pins s σ H x v vl vu lo hi sl Q I rx hs pl pu h
  obtain ⟨a, xs, rfl, hx, q1, q2⟩ := h
  by_cases hw : HT.sIx xs.length 0 lo = 0 ∧ HT.sIx xs.length xs.length hi = xs.length
  · cases (show v = Value.ref a from rx)
    obtain ⟨its, r, ht, hz⟩ := Inv.tuple I hx
    have hlen : its.toArray.size = xs.length := by
      rw [List.size_toArray]
      exact (Vals.length r).symm
    exact ⟨"tuple", "tuple.__getitem__", slot_tuple_getitem.lookup, IsTup.typeIs ht, getItem_tuple_whole ht hs pl pu (by rw [hlen]; exact hw) ⟨.ref a, H, I, rfl, q1 hw⟩⟩
  · exact sl_tup pins s σ H _ v vl vu lo hi sl Q I rx hs pl pu ⟨a, xs, rfl, hx, hw, q2 hw⟩
/-- tuples joined, an empty one too -/
def rCatW (K : PySem.W.Frag) : R2 := fun x y H Q => ∃ a b xs ys, x = .ref a ∧ y = .ref b ∧ SqT K H a xs ∧ SqT K H b ys ∧ xs.length + ys.length ≤ sizeLine ∧ (xs = [] → Q (.ref b) H) ∧ (xs ≠ [] → ys = [] → Q (.ref a) H) ∧ (xs ≠ [] → ys ≠ [] → ∀ p, H p = none → Q (.ref p) (upd H p (.tup (xs ++ ys))))
theorem op_catW {X : Cx} : OpR X (binaryOp .Add) (rCatW X.K) := by
  intro pins s σ H x y v u Q I rx ry h
  obtain ⟨a, b, xs, ys, rfl, rfl, ha, hb, hz, q1, q2, q3⟩ := h
  by_cases hx : xs = []
  · subst hx
    cases (show v = Value.ref a from rx)
    cases (show u = Value.ref b from ry)
    obtain ⟨its, r1, ⟨⟨cls, dd, data, sl⟩, ho, hc, n, hd⟩, _⟩ := Inv.tuple I ha
    obtain ⟨its2, r2, ⟨⟨cls2, dd2, data2, sl2⟩, ho2, hc2, n2, hd2⟩, _⟩ := Inv.tuple I hb
    cases r1
    cases (show cls = .type "tuple" from hc)
    cases (show cls2 = .type "tuple" from hc2)
    cases (show data = _ from hd)
    cases (show data2 = _ from hd2)
    exact concat_meets ⟨_, ho, rfl⟩ ⟨_, ho2, rfl⟩ noFill_tuple_add seq_tuple_add F.slot_tuple_add F.entry_tuple_add (F.args_tuple_add_2 (Value.ref a) (Value.ref b)) (tuple_addW0 a b _ _ n n2 dd dd2 sl sl2 rfl) ⟨ho, ho2, .ref b, H, I, rfl, q1 rfl⟩
  · exact op_catT pins s σ H _ _ v u Q I rx ry ⟨a, b, xs, ys, rfl, rfl, ha, hb, hx, hz, q2 hx, q3 hx⟩

section
variable {Ω : Type} {K : PySem.W.Frag} {W : Obs Ω}
mutual
def py : Dat Ω → Option PyData
  | .non => some .none
  | .bl b => some (.bool b)
  | .int i => some (.int i)
  | .str s => some (.str s)
  | .lst ds => (pys ds).map PyData.list
  | .tup ds => (pys ds).map PyData.tuple
  | _ => none
termination_by structural d => d
def pys : List (Dat Ω) → Option (List PyData)
  | [] => some []
  | d :: ds => match py d, pys ds with
    | some p, some ps => some (p :: ps)
    | _, _ => none
termination_by structural d => d
end
theorem Real.ho {g : Gh Ω} {H : Hp} {a : Addr} {o : HO} (s : Subs W g H) (e : g a = some (.ho o)) (n : isDic o = false := by rfl) : H a = some o := by
  rcases s a _ e with h | ⟨d, _⟩
  · exact h
  · rw [n] at d
    cases d
theorem Real.rd {g : Gh Ω} {H : Hp} {a : Addr} {o : HO} (s : Subs W g H) (e : g a = some (.ho o)) : Rd H a o := by
  rcases s a _ e with h | ⟨d, ob, h⟩
  · exact .inl h
  · exact .inr ⟨ob, h⟩
theorem wrT {K : PySem.W.Frag} {H : Hp} {a : Addr} {xs : List V} (h : WrT K a xs) : SqT K H a xs := .inr h
mutual
theorem dv_dp {g : Gh Ω} {H : Hp} (s : Subs W g H) : ∀ {v : V} {d : Dat Ω} {p : PyData}, DV K g v d → py d = some p → Dp K H v p
  | _, _, _, .non, e => by cases e; exact .non
  | _, _, _, .bl b, e => by cases e; exact .bl b
  | _, _, _, .int i, e => by cases e; exact .int i
  | _, _, _, .str x, e => by cases e; exact .str x
  | _, _, _, .lst (ds := ds) h r, e => by
    unfold py at e
    cases h2 : pys ds with
    | none => rw [h2] at e; cases e
    | some ps =>
      rw [h2] at e
      cases e
      exact .lst (SqL.of (Real.ho s h)) (dvs_dp s r h2)
  | _, _, _, .tup (ds := ds) h r, e => by
    unfold py at e
    cases h2 : pys ds with
    | none => rw [h2] at e; cases e
    | some ps =>
      rw [h2] at e
      cases e
      exact .tup (SqT.of (Real.ho s h)) (dvs_dp s r h2)
  | _, _, _, .dK h l r, e => by cases e
  | _, _, _, .dT h l r, e => by cases e
  | _, _, _, .obj h, e => by cases e
theorem dvs_dp {g : Gh Ω} {H : Hp} (s : Subs W g H) : ∀ {vs : List V} {ds : List (Dat Ω)} {ps : List PyData}, DVs K g vs ds → pys ds = some ps → DpAll K H vs ps
  | _, _, _, .nil, e => by cases e; exact .nil
  | _, _, _, .cons (d := d) (ds := ds) h r, e => by
    unfold pys at e
    cases h1 : py d with
    | none => rw [h1] at e; cases e
    | some p =>
      cases h2 : pys ds with
      | none => rw [h1, h2] at e; cases e
      | some ps =>
        rw [h1, h2] at e
        cases e
        exact .cons (dv_dp s h h1) (dvs_dp s r h2)
end
theorem pv_dp {g : Gh Ω} {H : Hp} (s : Subs W g H) {v : V} {d : Dat Ω} {p : PyData} (h : PV K g H v d) (e : py d = some p) : Dp K H v p := by
  cases h with
  | dat h => exact dv_dp s h e
  | @own L vs ds h r =>
    unfold py at e
    cases h2 : pys ds with
    | none => rw [h2] at e; cases e
    | some ps =>
      rw [h2] at e
      cases e
      exact .lst (SqL.of h) (dvs_dp s r h2)
  | ownK h l r => cases e
theorem PV.int {g : Gh Ω} {H : Hp} {v : V} {i : Int} (h : PV K g H v (.int i)) : v = .int i := by
  cases h with
  | dat h => cases h; rfl
theorem PV.str {g : Gh Ω} {H : Hp} {v : V} {i : Str} (h : PV K g H v (.str i)) : v = .str i := by
  cases h with
  | dat h => cases h; rfl
theorem PV.bl {g : Gh Ω} {H : Hp} {v : V} {i : Bool} (h : PV K g H v (.bl i)) : v = .bl i := by
  cases h with
  | dat h => cases h; rfl
theorem PV.non {g : Gh Ω} {H : Hp} {v : V} (h : PV K g H v .non) : v = .non := by
  cases h with
  | dat h => cases h; rfl
theorem PV.lst {g : Gh Ω} {H : Hp} (s : Subs W g H) {v : V} {ds : List (Dat Ω)} (h : PV K g H v (.lst ds)) : ∃ a xs, v = .ref a ∧ H a = some (.lst xs) ∧ DVs K g xs ds := by
  cases h with
  | dat h =>
    cases h with
    | lst h r => exact ⟨_, _, rfl, Real.ho s h, r⟩
  | own h r => exact ⟨_, _, rfl, h, r⟩
theorem PV.tup {g : Gh Ω} {H : Hp} (s : Subs W g H) {v : V} {ds : List (Dat Ω)} (h : PV K g H v (.tup ds)) : ∃ a xs, v = .ref a ∧ SqT K H a xs ∧ DVs K g xs ds := by
  cases h with
  | dat h =>
    cases h with
    | tup h r => exact ⟨_, _, rfl, SqT.of (Real.ho s h), r⟩
theorem PV.dK {g : Gh Ω} {H : Hp} (s : Subs W g H) {v : V} {ks : List Key} {ds : List (Dat Ω)} (h : PV K g H v (.dK ks ds)) : ∃ a xs, v = .ref a ∧ Rd H a (.dK (ks.zip xs)) ∧ ks.length = xs.length ∧ DVs K g xs ds := by
  cases h with
  | dat h =>
    cases h with
    | dK h l r => exact ⟨_, _, rfl, Real.rd s h, l, r⟩
  | ownK h l r => exact ⟨_, _, rfl, .inl h, l, r⟩
/-- the value is not None -/
theorem PV.isN {g : Gh Ω} {H : Hp} {v : V} {d : Dat Ω} (h : PV K g H v d) : decide (v = .non) = (match d with | .non => true | _ => false) := by
  cases h with
  | dat h => cases h <;> rfl
  | own h r => rfl
  | ownK h l r => rfl
def r2v (r : R2) : List V → Hp → VK → Prop := fun vs H Q => match vs with
  | [x, y] => r x y H Q
  | _ => False
def r1v (r : V → Hp → VK → Prop) : List V → Hp → VK → Prop := fun vs H Q => match vs with
  | [x] => r x H Q
  | _ => False
theorem upO_mono {A : Opn Ω} {σ : L2.St} {H : Hp} {Q Q' : VK} (h : upO K W A σ H Q) (k : ∀ v H', Q v H' → Q' v H') : upO K W A σ H Q' := by
  cases A with
  | nm i =>
    obtain ⟨v, hv, q⟩ := h
    exact ⟨v, hv, k _ _ q⟩
  | ex T =>
    obtain ⟨F, g, γ, q, R, t, z⟩ := h
    exact ⟨F, g, γ, q, R, t, fun d γ' v H' g' a b c e => k _ _ (z d γ' v H' g' a b c e)⟩
section
variable {X : Cx} {a b c : Expr} {A B C : Opn Ω} {r : R2} {f : List (Dat Ω) → (Dat Ω → Prop) → Prop} {pos : Pos}
theorem pd_bin {op : Operator} (ho : OpR X (binaryOp op) r) (hd : OpD K W (r2v r) f) (ha : PE X a (upO K W A)) (hb : PE X b (upO K W B)) : PE X (.BinOp a op b pos) (up K W (tOps [A, B] f)) :=
  pe_ops (r := r2v r) (PEc (pe_op ho ha hb) fun _ _ _ h => h) hd
theorem pf_bin {op : Operator} (ho : OpR X (binaryOp op) r) (hd : OpF K W (r2v r) f) (ha : PE X a (upO K W A)) (hb : PE X b (upO K W B)) : PE X (.BinOp a op b pos) (upF K W (tOps [A, B] f)) :=
  pf_ops (r := r2v r) (PEc (pe_op ho ha hb) fun _ _ _ h => h) hd
theorem pd_un {op : UnaryOp} {r : V → Hp → VK → Prop} (ho : UnR X (unaryOp op) r) (hd : OpD K W (r1v r) f) (ha : PE X a (upO K W A)) : PE X (.UnaryOp op a pos) (up K W (tOps [A] f)) :=
  pe_ops (r := r1v r) (PEc (pe_un ho ha) fun _ _ _ h => h) hd
theorem pd_cmp {op : CmpOp} (ho : OpR X (compareOp op) r) (hd : OpD K W (r2v r) f) (ha : PE X a (upO K W A)) (hb : PE X b (upO K W B)) (hm : behindInMarks op b = false) : PE X (.Compare a [op] [b] pos) (up K W (tOps [A, B] f)) :=
  pe_ops (r := r2v r) (PEc (pe_cmpR ho ha hb hm) fun _ _ _ h => h) hd
/-- a value that is a bool, as a test -/
def tB' (T : DE Ω) : DT Ω := fun γ q => T γ fun d γ' => match d with
  | .bl b => q b γ'
  | _ => False
theorem ptest {e : Expr} {t : TE} {T : DE Ω} (h : PT X e (fun σ H Q => t σ H fun x H' => ∃ k, x = .bl k ∧ Q k H')) (k : ∀ σ H Q, up K W T σ H Q → t σ H Q) : PT X e (upT K W (tB' T)) := PTc h fun σ H Q ⟨F, g, γ, q, R, t, z⟩ => k _ _ _
  ⟨F, g, γ, _, R, t, fun d γ' v H' g' hq le R' dv => by
    cases dv with
    | bl b => exact ⟨b, rfl, z b γ' H' g' hq le R'⟩
    | _ => exact hq.elim⟩
theorem pt_v {e : Expr} {T : DE Ω} (h : PE X e (up K W T)) (he : ∀ whole, isTrue e X.env whole = (do let v ← whole; standAt e.pos; holding [v] (truthy v)) := by intro _; rfl) : PT X e (upT K W (tB' T)) := ptest (t := up K W T) (PTc (pt_val h he) fun _ _ _ h => h) fun _ _ _ h => h
theorem pt_c {op : CmpOp} {f : List (Dat Ω) → (Dat Ω → Prop) → Prop} (ho : OpR X (compareOp op) r) (hd : OpD K W (r2v r) f) (ha : PE X a (upO K W A)) (hb : PE X b (upO K W B)) (hm : behindInMarks op b = false) : PT X (.Compare a [op] [b] pos) (upT K W (tB' (tOps [A, B] f))) :=
  ptest (t := tOp r (upO K W A) (upO K W B)) (PTc (pt_cmpR ho ha hb hm) fun _ _ _ h => h) fun σ H Q ⟨F, g, γ, q, R, t, k⟩ =>
    (ev_sound [A, B] R t fun os γ' g' vs H' l le R' tm => by
      obtain ⟨ds, hf, pv⟩ := late_sound R' tm l
      exact hd g' H' vs ds _ Q R'.sub pv hf fun z w g2 H2 hz G dv => k z γ' w H2 g2 hz (le.tr G.le) (R'.grow G) dv : upA K W [A, B] σ H fun vs H' => r2v r vs H' Q)
def dAnd (t u : DT Ω) : DT Ω := fun γ q => t γ fun c γ1 => if c = true then u γ1 q else q false γ1
def dOr (t u : DT Ω) : DT Ω := fun γ q => t γ fun c γ1 => if c = true then q true γ1 else u γ1 q
def dNot (t : DT Ω) : DT Ω := fun γ q => t γ fun c γ1 => q (!c) γ1
variable {rest : List Expr} {t u : DT Ω} {T U : DE Ω}
theorem pwd_and1 (ha : PT X a (upT K W t)) : PW X (.BoolOp .And [a] pos) (upT K W t) := pw_and1 ha
theorem pwd_or1 (ha : PT X a (upT K W t)) : PW X (.BoolOp .Or [a] pos) (upT K W t) := pw_or1 ha
theorem pwd_and (ha : PT X a (upT K W t)) (hb : PW X (.BoolOp .And (b :: rest) pos) (upT K W u)) : PW X (.BoolOp .And (a :: b :: rest) pos) (upT K W (dAnd t u)) := PWc (pw_and ha hb) fun σ H Q ⟨F, g, γ, q, R, e, k⟩ =>
  ⟨F, g, γ, _, R, e, fun c γ' H' g' hq le R' => by
    cases c with
    | true => exact ⟨F, g', γ', _, R', hq, fun d γ2 H2 g2 hq2 le2 R2 => k d γ2 H2 g2 hq2 (le.tr le2) R2⟩
    | false => exact k _ γ' H' g' hq le R'⟩
theorem pwd_or (ha : PT X a (upT K W t)) (hb : PW X (.BoolOp .Or (b :: rest) pos) (upT K W u)) : PW X (.BoolOp .Or (a :: b :: rest) pos) (upT K W (dOr t u)) := PWc (pw_or ha hb) fun σ H Q ⟨F, g, γ, q, R, e, k⟩ =>
  ⟨F, g, γ, _, R, e, fun c γ' H' g' hq le R' => by
    cases c with
    | false => exact ⟨F, g', γ', _, R', hq, fun d γ2 H2 g2 hq2 le2 R2 => k d γ2 H2 g2 hq2 (le.tr le2) R2⟩
    | true => exact k _ γ' H' g' hq le R'⟩
theorem ptd_not (ha : PT X a (upT K W t)) : PT X (.UnaryOp .Not a pos) (upT K W (dNot t)) := PTc (pt_not ha) fun σ H Q ⟨F, g, γ, q, R, e, k⟩ => ⟨F, g, γ, _, R, e, fun c γ' H' g' hq le R' => k _ γ' H' g' hq le R'⟩
def dIf (t : DT Ω) (T U : DE Ω) : DE Ω := fun γ q => t γ fun c γ1 => if c = true then T γ1 q else U γ1 q
theorem pd_if (hc : PT X c (upT K W t)) (ha : PE X a (up K W T)) (hb : PE X b (up K W U)) : PE X (.IfExp c a b pos) (up K W (dIf t T U)) := PEc (pe_ifExp hc ha hb) fun σ H Q ⟨F, g, γ, q, R, e, k⟩ =>
  ⟨F, g, γ, _, R, e, fun c γ' H' g' hq le R' => by
    cases c with
    | true => exact ⟨F, g', γ', _, R', hq, fun d γ2 v H2 g2 hq2 le2 R2 dv => k d γ2 v H2 g2 hq2 (le.tr le2) R2 dv⟩
    | false => exact ⟨F, g', γ', _, R', hq, fun d γ2 v H2 g2 hq2 le2 R2 dv => k d γ2 v H2 g2 hq2 (le.tr le2) R2 dv⟩⟩
/-- values that are bools: and, or, not -/
def vAnd (T U : DE Ω) : DE Ω := fun γ q => T γ fun d γ1 => match d with
  | .bl true => U γ1 q
  | .bl false => q (.bl false) γ1
  | _ => False
def vOr (T U : DE Ω) : DE Ω := fun γ q => T γ fun d γ1 => match d with
  | .bl true => q (.bl true) γ1
  | .bl false => U γ1 q
  | _ => False
def vNot (T : DE Ω) : DE Ω := fun γ q => T γ fun d γ1 => match d with
  | .bl k => q (.bl (!k)) γ1
  | _ => False
theorem pd_one {op} (h : PE X a (up K W T)) : PE X (.BoolOp op [a] pos) (up K W T) := pe_one h
theorem pd_and (ha : PE X a (up K W T)) (hb : PE X (.BoolOp .And (b :: rest) pos) (up K W U)) : PE X (.BoolOp .And (a :: b :: rest) pos) (up K W (vAnd T U)) := PEc (pe_and ha hb) fun σ H Q ⟨F, g, γ, q, R, e, k⟩ =>
  ⟨F, g, γ, _, R, e, fun d γ' v H' g' hq le R' dv => by
    cases dv with
    | bl c =>
      refine ⟨c, rfl, ?_⟩
      cases c with
      | true => exact ⟨F, g', γ', _, R', hq, fun d γ2 v H2 g2 hq2 le2 R2 dv => k d γ2 v H2 g2 hq2 (le.tr le2) R2 dv⟩
      | false => exact k _ γ' _ H' g' hq le R' (.bl false)
    | _ => exact hq.elim⟩
theorem pd_or (ha : PE X a (up K W T)) (hb : PE X (.BoolOp .Or (b :: rest) pos) (up K W U)) : PE X (.BoolOp .Or (a :: b :: rest) pos) (up K W (vOr T U)) := PEc (pe_or ha hb) fun σ H Q ⟨F, g, γ, q, R, e, k⟩ =>
  ⟨F, g, γ, _, R, e, fun d γ' v H' g' hq le R' dv => by
    cases dv with
    | bl c =>
      refine ⟨c, rfl, ?_⟩
      cases c with
      | false => exact ⟨F, g', γ', _, R', hq, fun d γ2 v H2 g2 hq2 le2 R2 dv => k d γ2 v H2 g2 hq2 (le.tr le2) R2 dv⟩
      | true => exact k _ γ' _ H' g' hq le R' (.bl true)
    | _ => exact hq.elim⟩
theorem pd_not (ha : PE X a (up K W T)) : PE X (.UnaryOp .Not a pos) (up K W (vNot T)) := PEc (pe_not ha) fun σ H Q ⟨F, g, γ, q, R, e, k⟩ =>
  ⟨F, g, γ, _, R, e, fun d γ' v H' g' hq le R' dv => by
    cases dv with
    | bl c => exact ⟨c, rfl, k _ γ' _ H' g' hq le R' (.bl _)⟩
    | _ => exact hq.elim⟩
end
end
end DL
set_option Elab.async false
set_option linter.all false
set_option maxRecDepth 100000
set_option maxHeartbeats 4000000
namespace DL
open PySem PySem.Spec PyProof.Rows L2 Nv
section
variable {Ω : Type} {K : PySem.W.Frag} {W : Obs Ω}
abbrev FD (Ω : Type) := List (Dat Ω) → (Dat Ω → Prop) → Prop
theorem Grow.rf {g : Gh Ω} {H : Hp} (s : Subs W g H) : Grow W g H g H := .refl s
/-- an object that is new, as data -/
theorem fin_new {g : Gh Ω} {H : Hp} {k : Dat Ω → Prop} {Q : VK} {z : Dat Ω} {p : Addr} {o : HO} (s : Subs W g H) (q : ∀ z w g' H', k z → Grow W g H g' H' → DV K g' w z → Q w H') (hk : k z) (n : H p = none) (dv : ∀ g', Le g g' → g' p = some (.ho o) → DV K g' (.ref p) z) : Q (.ref p) (upd H p o) := by
  have G := Grow.dat (o := o) s n
  exact q z _ _ _ hk G (dv _ G.le gup_same)
/-! ### + - * // % ** -/
def fAdd : FD Ω
  | [.int i, .int j], k => k (.int (i + j))
  | [.str s, .str t], k => s.length + t.length ≤ sizeLine ∧ k (.str (s ++ t))
  | [.lst a, .lst b], k => a.length + b.length ≤ sizeLine ∧ k (.lst (a ++ b))
  | [.tup a, .tup b], k => a.length + b.length ≤ sizeLine ∧ k (.tup (a ++ b))
  | _, _ => False
def rAddA (K : PySem.W.Frag) : R2 := fun x y H Q => (∃ i j, x = .int i ∧ y = .int j ∧ Q (.int (i + j)) H) ∨ (∃ i j, x = .str i ∧ y = .str j ∧ i.length + j.length ≤ sizeLine ∧ Q (.str (i ++ j)) H) ∨ rCat x y H Q ∨ rCatW K x y H Q
theorem op_addA {X : Cx} : OpR X (binaryOp .Add) (rAddA X.K) := OpR.or op_add (OpR.or op_add_str (OpR.or op_cat op_catW))
theorem od_add : OpD K W (r2v (rAddA K)) fAdd := by
  intro g H vs ds k Q s p e q
  unfold fAdd at e
  split at e
  · rename_i i j
    cases p with | cons p1 p => cases p with | cons p2 p => cases p; cases p1.int; cases p2.int; exact .inl ⟨i, j, rfl, rfl, q _ _ _ _ e (.refl s) (.int _)⟩
  · rename_i a b
    cases p with | cons p1 p => cases p with | cons p2 p => cases p; cases p1.str; cases p2.str; exact .inr (.inl ⟨a, b, rfl, rfl, e.1, q _ _ _ _ e.2 (.refl s) (.str _)⟩)
  · rename_i a b
    cases p with
    | cons p1 p =>
      cases p with
      | cons p2 p =>
        cases p
        obtain ⟨L, xs, rfl, hL, r1⟩ := p1.lst s
        obtain ⟨M, ys, rfl, hM, r2⟩ := p2.lst s
        exact .inr (.inr (.inl ⟨L, M, xs, ys, rfl, rfl, hL, hM, by rw [r1.length, r2.length]; exact e.1, fun p n => fin_new s q e.2 n fun g' le h => .lst h ((r1.append r2).more le)⟩))
  · rename_i a b
    cases p with
    | cons p1 p =>
      cases p with
      | cons p2 p =>
        cases p
        cases p1 with
        | dat p1 =>
          cases p2 with
          | dat p2 =>
            obtain ⟨L, xs, e1, hL, r1⟩ := (PV.dat (H := H) p1).tup s
            obtain ⟨M, ys, e2, hM, r2⟩ := (PV.dat (H := H) p2).tup s
            subst e1 e2
            refine .inr (.inr (.inr ⟨L, M, xs, ys, rfl, rfl, hL, hM, by rw [r1.length, r2.length]; exact e.1, fun z => ?_, fun z z2 => ?_, fun z z2 p n => fin_new s q e.2 n fun g' le h => .tup h ((r1.append r2).more le)⟩))
            · subst z
              cases r1
              exact q _ _ _ _ e.2 (.refl s) p2
            · subst z2
              cases r2
              refine q _ _ _ _ e.2 (.refl s) ?_
              rw [List.append_nil]
              exact p1
  · exact e.elim
/-- a new list: + of lists -/
def fCat : FD Ω
  | [.lst a, .lst b], k => a.length + b.length ≤ sizeLine ∧ k (.lst (a ++ b))
  | _, _ => False
theorem of_cat : OpF K W (r2v rCat) fCat := by
  intro g H vs ds k Q s p e q
  unfold fCat at e
  split at e
  · rename_i a b
    cases p with
    | cons p1 p =>
      cases p with
      | cons p2 p =>
        cases p
        obtain ⟨L, xs, rfl, hL, r1⟩ := p1.lst s
        obtain ⟨M, ys, rfl, hM, r2⟩ := p2.lst s
        exact ⟨L, M, xs, ys, rfl, rfl, hL, hM, by rw [r1.length, r2.length]; exact e.1, fun p n => q _ _ _ _ _ e.2 (.refl s) n (r1.append r2)⟩
  · exact e.elim
/-- ints, under a condition -/
def fI2 (C : Int → Int → Prop) (h : Int → Int → Int) : FD Ω
  | [.int i, .int j], k => C i j ∧ k (.int (h i j))
  | _, _ => False
theorem od_I2 {C : Int → Int → Prop} {h : Int → Int → Int} : OpD K W (r2v (rI C fun i j => .int (h i j))) (fI2 C h) := by
  intro g H vs ds k Q s p e q
  unfold fI2 at e
  split at e
  · rename_i i j
    cases p with | cons p1 p => cases p with | cons p2 p => cases p; cases p1.int; cases p2.int; exact ⟨i, j, rfl, rfl, e.1, q _ _ _ _ e.2 (.refl s) (.int _)⟩
  · exact e.elim
def fI20 (h : Int → Int → Int) : FD Ω
  | [.int i, .int j], k => k (.int (h i j))
  | _, _ => False
theorem od_I20 {h : Int → Int → Int} : OpD K W (r2v (rI0 fun i j => .int (h i j))) (fI20 h) := by
  intro g H vs ds k Q s p e q
  unfold fI20 at e
  split at e
  · rename_i i j
    cases p with | cons p1 p => cases p with | cons p2 p => cases p; cases p1.int; cases p2.int; exact ⟨i, j, rfl, rfl, q _ _ _ _ e (.refl s) (.int _)⟩
  · exact e.elim
def fB20 (h : Int → Int → Bool) : FD Ω
  | [.int i, .int j], k => k (.bl (h i j))
  | _, _ => False
theorem od_B20 {h : Int → Int → Bool} : OpD K W (r2v (rI0 fun i j => .bl (h i j))) (fB20 h) := by
  intro g H vs ds k Q s p e q
  unfold fB20 at e
  split at e
  · rename_i i j
    cases p with | cons p1 p => cases p with | cons p2 p => cases p; cases p1.int; cases p2.int; exact ⟨i, j, rfl, rfl, q _ _ _ _ e (.refl s) (.bl _)⟩
  · exact e.elim
def fNeg : FD Ω
  | [.int i], k => k (.int (-i))
  | _, _ => False
theorem od_neg : OpD K W (r1v (rU fun i => .int (-i))) fNeg := by
  intro g H vs ds k Q s p e q
  unfold fNeg at e
  split at e
  · rename_i i
    cases p with | cons p1 p => cases p; cases p1.int; exact ⟨i, rfl, q _ _ _ _ e (.refl s) (.int _)⟩
  · exact e.elim
/-! ### == != in -/
def eqK (neg : Bool) (x y : Dat Ω) (k : Dat Ω → Prop) : Prop := ∃ a b, py x = some a ∧ py y = some b ∧ SeqAt.shaped a = true ∧ SeqAt.shaped b = true ∧ k (.bl (if neg then !PyData.eqv a b else PyData.eqv a b))
def fEq : FD Ω
  | [.int i, .int j], k => k (.bl (decide (i = j)))
  | [.str i, .str j], k => k (.bl (decide (i = j)))
  | [x, y], k => eqK false x y k
  | _, _ => False
def fNe : FD Ω
  | [.int i, .int j], k => k (.bl (!decide (i = j)))
  | [.str i, .str j], k => k (.bl (!decide (i = j)))
  | [x, y], k => eqK true x y k
  | _, _ => False
theorem dI {i j : Int} : decide (V.int i = V.int j) = decide (i = j) := by
  by_cases h : i = j
  · rw [decide_eq_true h, decide_eq_true (by rw [h])]
  · rw [decide_eq_false h, decide_eq_false fun z => h (V.int.inj z)]
theorem dS {i j : Str} : decide (V.str i = V.str j) = decide (i = j) := by
  by_cases h : i = j
  · rw [decide_eq_true h, decide_eq_true (by rw [h])]
  · rw [decide_eq_false h, decide_eq_false fun z => h (V.str.inj z)]
def rEqA (K : PySem.W.Frag) : R2 := fun x y H Q => rEq x y H Q ∨ rEqD K x y H Q
def rNeA (K : PySem.W.Frag) : R2 := fun x y H Q => rNe x y H Q ∨ rNeD K x y H Q
theorem op_eqA {X : Cx} (hu : X.A.units + 64 < cLine) : OpR X (compareOp .Eq) (rEqA X.K) := OpR.or op_eq (op_eqD hu)
theorem op_neA {X : Cx} (hu : X.A.units + 64 < cLine) : OpR X (compareOp .NotEq) (rNeA X.K) := OpR.or op_ne (op_neD hu)
theorem od_eq : OpD K W (r2v (rEqA K)) fEq := by
  intro g H vs ds k Q s p e q
  unfold fEq at e
  split at e
  · rename_i i j
    cases p with | cons p1 p => cases p with | cons p2 p => cases p; cases p1.int; cases p2.int; exact .inl ⟨rfl, by rw [dI]; exact q _ _ _ _ e (.refl s) (.bl _)⟩
  · rename_i i j
    cases p with | cons p1 p => cases p with | cons p2 p => cases p; cases p1.str; cases p2.str; exact .inl ⟨rfl, by rw [dS]; exact q _ _ _ _ e (.refl s) (.bl _)⟩
  · rename_i x y _ _
    obtain ⟨a, b, ea, eb, e⟩ := e
    cases p with | cons p1 p => cases p with | cons p2 p => cases p; exact .inr ⟨a, b, pv_dp s p1 ea, pv_dp s p2 eb, e.1, e.2.1, q _ _ _ _ e.2.2 (.refl s) (.bl _)⟩
  · exact e.elim
theorem od_ne : OpD K W (r2v (rNeA K)) fNe := by
  intro g H vs ds k Q s p e q
  unfold fNe at e
  split at e
  · rename_i i j
    cases p with | cons p1 p => cases p with | cons p2 p => cases p; cases p1.int; cases p2.int; exact .inl ⟨rfl, by rw [dI]; exact q _ _ _ _ e (.refl s) (.bl _)⟩
  · rename_i i j
    cases p with | cons p1 p => cases p with | cons p2 p => cases p; cases p1.str; cases p2.str; exact .inl ⟨rfl, by rw [dS]; exact q _ _ _ _ e (.refl s) (.bl _)⟩
  · rename_i x y _ _
    obtain ⟨a, b, ea, eb, e⟩ := e
    cases p with | cons p1 p => cases p with | cons p2 p => cases p; exact .inr ⟨a, b, pv_dp s p1 ea, pv_dp s p2 eb, e.1, e.2.1, q _ _ _ _ e.2.2 (.refl s) (.bl _)⟩
  · exact e.elim
/-- x in xs, xs a list of data -/
def fInL (neg : Bool) : FD Ω
  | [x, .lst ds], k => ∃ a bs, py x = some a ∧ pys ds = some bs ∧ SeqAt.shaped a = true ∧ SeqAt.shaped (.list bs) = true ∧ k (.bl (if neg then !bs.any (fun z => PyData.eqv z a) else bs.any (fun z => PyData.eqv z a)))
  | _, _ => False
theorem pv_dpl {g : Gh Ω} {H : Hp} (s : Subs W g H) {v : V} {ds : List (Dat Ω)} {ps : List PyData} (h : PV K g H v (.lst ds)) (e : pys ds = some ps) : Dp K H v (.list ps) := pv_dp s h (by unfold py; rw [e]; rfl)
theorem od_inL : OpD K W (r2v (rInD K)) (fInL false) := by
  intro g H vs ds k Q s p e q
  unfold fInL at e
  split at e
  · rename_i x ds
    obtain ⟨a, bs, ea, eb, e⟩ := e
    cases p with | cons p1 p => cases p with | cons p2 p => cases p; exact ⟨a, bs, pv_dp s p1 ea, pv_dpl s p2 eb, e.1, e.2.1, q _ _ _ _ e.2.2 (.refl s) (.bl _)⟩
  · exact e.elim
theorem od_ninL : OpD K W (r2v (rNotInD K)) (fInL true) := by
  intro g H vs ds k Q s p e q
  unfold fInL at e
  split at e
  · rename_i x ds
    obtain ⟨a, bs, ea, eb, e⟩ := e
    cases p with | cons p1 p => cases p with | cons p2 p => cases p; exact ⟨a, bs, pv_dp s p1 ea, pv_dpl s p2 eb, e.1, e.2.1, q _ _ _ _ e.2.2 (.refl s) (.bl _)⟩
  · exact e.elim
/-- is None, is not None -/
def isNon : Dat Ω → Bool
  | .non => true
  | _ => false
def fIsN (neg : Bool) : FD Ω
  | [x, .non], k => k (.bl (if neg then !isNon x else isNon x))
  | _, _ => False
theorem isN_eq {g : Gh Ω} {H : Hp} {v : V} {d : Dat Ω} (h : PV K g H v d) : decide (v = .non) = isNon d := by
  cases h with
  | dat h => cases h <;> rfl
  | own h r => rfl
  | ownK h l r => rfl
def rIsN : R2 := fun x y H Q => y = .non ∧ Q (.bl (decide (x = .non))) H
def rNotN : R2 := fun x y H Q => y = .non ∧ Q (.bl (!decide (x = .non))) H
theorem op_isN' {X : Cx} : OpR X (compareOp .Is) rIsN := op_isN
theorem op_notN' {X : Cx} : OpR X (compareOp .IsNot) rNotN := op_notN
theorem od_isN : OpD K W (r2v rIsN) (fIsN false) := by
  intro g H vs ds k Q s p e q
  unfold fIsN at e
  split at e
  · cases p with | cons p1 p => cases p with | cons p2 p => cases p; cases p2.non; exact ⟨rfl, by rw [isN_eq p1]; exact q _ _ _ _ e (.refl s) (.bl _)⟩
  · exact e.elim
theorem od_notN : OpD K W (r2v rNotN) (fIsN true) := by
  intro g H vs ds k Q s p e q
  unfold fIsN at e
  split at e
  · cases p with | cons p1 p => cases p with | cons p2 p => cases p; cases p2.non; exact ⟨rfl, by rw [isN_eq p1]; exact q _ _ _ _ e (.refl s) (.bl _)⟩
  · exact e.elim
/-! ### x[i] -/
def fIx : FD Ω
  | [.lst ds, .int i], k => ∃ d, atI ds i = some d ∧ k d
  | [.tup ds, .int i], k => ∃ d, atI ds i = some d ∧ k d
  | [.str z, .int i], k => z.length ≤ sizeLine ∧ ∃ c, atI z.cps.toList i = some c ∧ k (.str ⟨#[c]⟩)
  | _, _ => False
theorem dvs_atI {g : Gh Ω} {vs : List V} {ds : List (Dat Ω)} (r : DVs K g vs ds) {i : Int} {d : Dat Ω} (e : atI ds i = some d) : ∃ v, atI vs i = some v ∧ DV K g v d := by
  unfold atI at e ⊢
  rw [r.length]
  cases h : ixN ds.length i with
  | none => rw [h] at e; cases e
  | some j =>
    rw [h] at e
    exact r.at' j d e
def rIxA (K : PySem.W.Frag) : R2 := fun x y H Q => rIxL K x y H Q ∨ rIxT K x y H Q ∨ rIxS x y H Q
theorem ix_A {X : Cx} : IxR X (rIxA X.K) := IxR.or ix_list (IxR.or ix_tup ix_str)
theorem od_ix : OpD K W (r2v (rIxA K)) fIx := by
  intro g H vs ds k Q s p e q
  unfold fIx at e
  split at e
  · rename_i ds i
    obtain ⟨d, hd, e⟩ := e
    cases p with
    | cons p1 p =>
      cases p with
      | cons p2 p =>
        cases p
        cases p2.int
        obtain ⟨a, xs, rfl, ha, r⟩ := p1.lst s
        obtain ⟨v, hv, dv⟩ := dvs_atI r hd
        exact .inl ⟨a, xs, i, v, rfl, rfl, SqL.of ha, hv, q _ _ _ _ e (.refl s) dv⟩
  · rename_i ds i
    obtain ⟨d, hd, e⟩ := e
    cases p with
    | cons p1 p =>
      cases p with
      | cons p2 p =>
        cases p
        cases p2.int
        obtain ⟨a, xs, rfl, ha, r⟩ := p1.tup s
        obtain ⟨v, hv, dv⟩ := dvs_atI r hd
        exact .inr (.inl ⟨a, xs, i, v, rfl, rfl, ha, hv, q _ _ _ _ e (.refl s) dv⟩)
  · rename_i z i
    obtain ⟨e1, c, hc, e⟩ := e
    cases p with | cons p1 p => cases p with | cons p2 p => cases p; cases p1.str; cases p2.int; exact .inr (.inr ⟨z, i, c, rfl, rfl, e1, hc, q _ _ _ _ e (.refl s) (.str _)⟩)
  · exact e.elim
theorem pd_ix {X : Cx} {r : R2} {f : FD Ω} {a b : Expr} {A B : Opn Ω} {pos : Pos} (hr : IxR X r) (hd : OpD K W (r2v r) f) (ha : PE X a (upO K W A)) (hb : PE X b (upO K W B)) (hs : PlainIx b := by exact fun _ _ => rfl) : PE X (.Subscript a b pos) (up K W (tOps [A, B] f)) :=
  pe_ops (r := r2v r) (PEc (pe_ix hr ha hb hs) fun _ _ _ h => h) hd
/-! ### slices -/
def cutD (xs : List (Dat Ω)) (lo hi : Option Int) : List (Dat Ω) := (xs.drop (HT.sIx xs.length 0 lo)).take (HT.sIx xs.length xs.length hi - HT.sIx xs.length 0 lo)
theorem cut_dvs {g : Gh Ω} {vs : List V} {ds : List (Dat Ω)} (r : DVs K g vs ds) (lo hi : Option Int) : DVs K g (cutV vs lo hi) (cutD ds lo hi) := by
  unfold cutV cutD
  rw [r.length]
  exact (r.drop _).take _
def slK (x : Dat Ω) (lo hi : Option Int) (k : Dat Ω → Prop) : Prop := match x with
  | .lst ds => k (.lst (cutD ds lo hi))
  | .tup ds => k (.tup (cutD ds lo hi))
  | .str z => z.length ≤ sizeLine ∧ k (.str (cutS z lo hi))
  | _ => False
def rSlA (K : PySem.W.Frag) : V → Option Int → Option Int → Hp → VK → Prop := fun x lo hi H Q => rSlL K x lo hi H Q ∨ rSlW K x lo hi H Q ∨ rSlS x lo hi H Q
theorem sl_A {X : Cx} : SlR X (rSlA X.K) := SlR.or sl_list (SlR.or sl_tupW sl_str)
theorem sl_sound {g : Gh Ω} {H : Hp} {v : V} {x : Dat Ω} {lo hi : Option Int} {k : Dat Ω → Prop} {Q : VK} (s : Subs W g H) (p : PV K g H v x) (e : slK x lo hi k) (q : ∀ z w g' H', k z → Grow W g H g' H' → DV K g' w z → Q w H') : rSlA K v lo hi H Q := by
  unfold slK at e
  split at e
  · rename_i ds
    obtain ⟨a, xs, rfl, ha, r⟩ := p.lst s
    exact .inl ⟨a, xs, rfl, SqL.of ha, fun p n => fin_new s q e n fun g' le h => .lst h ((cut_dvs r lo hi).more le)⟩
  · rename_i ds
    cases p with
    | dat p1 =>
      obtain ⟨a, xs, e1, ha, r⟩ := (PV.dat (H := H) p1).tup s
      subst e1
      refine .inr (.inl ⟨a, xs, rfl, ha, fun hw => ?_, fun hw p n => fin_new s q e n fun g' le h => .tup h ((cut_dvs r lo hi).more le)⟩)
      refine q _ _ _ _ e (.refl s) ?_
      have : cutD ds lo hi = ds := by
        unfold cutD
        rw [← r.length, hw.1, hw.2, List.drop_zero, Nat.sub_zero, r.length, List.take_length]
      rw [this]
      exact p1
  · rename_i z
    cases p.str
    exact .inr (.inr ⟨z, rfl, e.1, q _ _ _ _ e.2 (.refl s) (.str _)⟩)
  · exact e.elim
def fSl2 : FD Ω
  | [x, .int i, .int j], k => slK x (some i) (some j) k
  | _, _ => False
def fSlL : FD Ω
  | [x, .int i], k => slK x (some i) none k
  | _, _ => False
def fSlH : FD Ω
  | [x, .int j], k => slK x none (some j) k
  | _, _ => False
def fSl0 : FD Ω
  | [x], k => slK x none none k
  | _, _ => False
section
variable {X : Cx} {a b c : Expr} {A B C : Opn Ω} {pos p2 : Pos}
theorem pd_slL (ha : PE X a (upO K W A)) (hb : PE X b (upO K W B)) (hK : X.K = K := by rfl) : PE X (.Subscript a (.Slice (some b) none none p2) pos) (up K W (tOps [A, B] fSlL)) := by
  subst hK
  refine pe_ops (r := fun vs H Q => ∃ x i, vs = [x, .int i] ∧ rSlA X.K x (some i) none H Q) (PEc (pe_slice sl_A ha (po_some hb) po_none) fun σ H Q h => ?_) ?_
  · exact upO_mono h fun x H1 h1 => upO_mono h1 fun y H2 ⟨x', i, e, r⟩ => by
      cases e
      exact ⟨i, rfl, r⟩
  · intro g H vs ds k Q s p e q
    unfold fSlL at e
    split at e
    · cases p with | cons p1 p => cases p with | cons p2 p => cases p; cases p2.int; exact ⟨_, _, rfl, sl_sound s p1 e q⟩
    · exact e.elim
theorem pd_slH (ha : PE X a (upO K W A)) (hb : PE X b (upO K W B)) (hK : X.K = K := by rfl) : PE X (.Subscript a (.Slice none (some b) none p2) pos) (up K W (tOps [A, B] fSlH)) := by
  subst hK
  refine pe_ops (r := fun vs H Q => ∃ x i, vs = [x, .int i] ∧ rSlA X.K x none (some i) H Q) (PEc (pe_slice sl_A ha po_none (po_some hb)) fun σ H Q h => ?_) ?_
  · exact upO_mono h fun x H1 h1 => upO_mono h1 fun y H2 ⟨x', i, e, r⟩ => by
      cases e
      exact ⟨i, rfl, r⟩
  · intro g H vs ds k Q s p e q
    unfold fSlH at e
    split at e
    · cases p with | cons p1 p => cases p with | cons p2 p => cases p; cases p2.int; exact ⟨_, _, rfl, sl_sound s p1 e q⟩
    · exact e.elim
end
end
end DL
set_option Elab.async false
set_option linter.all false
set_option maxRecDepth 100000
set_option maxHeartbeats 4000000
namespace DL
open PySem PySem.Spec PyProof.Rows L2 Nv
section
variable {Ω : Type} {K : PySem.W.Frag} {W : Obs Ω}
/-! ### what is kept: items of displays, arguments -/
def upK (K : PySem.W.Frag) (W : Obs Ω) : List (DE Ω) → TA
  | [] => tNil
  | T :: Ts => tCons (up K W T) (upK K W Ts)
def evK : List (DE Ω) → Gam Ω → (List (Dat Ω) → Gam Ω → Prop) → Prop
  | [], γ, r => r [] γ
  | T :: Ts, γ, r => T γ fun d γ1 => evK Ts γ1 fun ds γ' => r (d :: ds) γ'
def tKs (Ts : List (DE Ω)) (f : FD Ω) : DE Ω := fun γ q => evK Ts γ fun ds γ' => f ds fun z => q z γ'
theorem evK_sound : ∀ (Ts : List (DE Ω)) {F : Hp} {g : Gh Ω} {γ : Gam Ω} {σ : L2.St} {H : Hp} {r : List (Dat Ω) → Gam Ω → Prop} {Q : List V → Hp → Prop}, Rep K W F g γ σ H → evK Ts γ r →
    (∀ ds γ' g' vs H', r ds γ' → Le g g' → Rep K W F g' γ' σ H' → DVs K g' vs ds → Q vs H') → upK K W Ts σ H Q
  | [], F, g, γ, σ, H, r, Q, R, e, k => k [] γ g [] H e (.refl g) R .nil
  | T :: Ts, F, g, γ, σ, H, r, Q, R, e, k => ⟨F, g, γ, _, R, e, fun d γ' v H' g' q le R' dv => evK_sound Ts R' q fun ds γ2 g2 vs H2 q2 le2 R2 t => k _ _ _ _ _ q2 (le.tr le2) R2 (.cons (dv.more le2) t)⟩
def OpK (K : PySem.W.Frag) (W : Obs Ω) (r : List V → Hp → VK → Prop) (f : FD Ω) : Prop :=
  ∀ g H vs ds k Q, Subs W g H → DVs K g vs ds → f ds k → (∀ z w g' H', k z → Grow W g H g' H' → DV K g' w z → Q w H') → r vs H Q
def OpKF (K : PySem.W.Frag) (W : Obs Ω) (r : List V → Hp → VK → Prop) (f : FD Ω) : Prop :=
  ∀ g H vs ds k Q, Subs W g H → DVs K g vs ds → f ds k → (∀ zs ws L g1 H1, k (.lst zs) → Grow W g H g1 H1 → H1 L = none → DVs K g1 ws zs → Q (.ref L) (upd H1 L (.lst ws))) → r vs H Q
section
variable {X : Cx} {e : Expr} {es : List Expr} {T : DE Ω} {Ts : List (DE Ω)} {r : List V → Hp → VK → Prop} {f : FD Ω} {pos : Pos} {k1 : Nat}
theorem pk0 : PA X [] (upK K W []) := pa_nil
theorem pk1 (h : PE X e (up K W T)) (t : PA X es (upK K W Ts)) (hs : starEach (e :: es) X.env = (false, eval e X.env) :: starEach es X.env := by rfl) : PA X (e :: es) (upK K W (T :: Ts)) := pa_cons h t hs
theorem pe_ks (hp : PE X e (fun σ H Q => upK K W Ts σ H fun vs H' => r vs H' Q)) (ho : OpK K W r f) : PE X e (up K W (tKs Ts f)) := PEc hp fun σ H Q ⟨F, g, γ, q, R, t, k⟩ =>
  evK_sound Ts R t fun ds γ' g' vs H' hf le R' dvs => ho g' H' vs ds _ Q R'.sub dvs hf fun z w g2 H2 hz G dv => k z γ' w H2 g2 hz (le.tr G.le) (R'.grow G) dv
theorem pf_ks (hp : PE X e (fun σ H Q => upK K W Ts σ H fun vs H' => r vs H' Q)) (ho : OpKF K W r f) : PE X e (upF K W (tKs Ts f)) := PEc hp fun σ H Q ⟨F, g, γ, q, R, t, k⟩ =>
  evK_sound Ts R t fun ds γ' g' vs H' hf le R' dvs => ho g' H' vs ds _ Q R'.sub dvs hf fun zs ws L g2 H2 hz G n d => k zs γ' ws L H2 g2 hz (le.tr G.le) (R'.grow G) n d
/-! ### displays -/
def fLst : FD Ω := fun ds k => ds.length ≤ sizeLine ∧ k (.lst ds)
def fTup : FD Ω := fun ds k => ds.length ≤ sizeLine ∧ k (.tup ds)
def rLst : List V → Hp → VK → Prop := fun xs H Q => xs.length ≤ sizeLine ∧ ∀ p, H p = none → Q (.ref p) (upd H p (.lst xs))
def rTup : List V → Hp → VK → Prop := fun xs H Q => xs.length ≤ sizeLine ∧ ∀ p, H p = none → Q (.ref p) (upd H p (.tup xs))
theorem pf_lst (h : PA X es (upK K W Ts)) : PE X (.List es pos) (upF K W (tKs Ts fLst)) :=
  pf_ks (r := rLst) (PEc (pe_lst h) fun _ _ _ h => h) fun g H vs ds k Q s d e q => ⟨by rw [d.length]; exact e.1, fun p n => q ds vs p g H e.2 (.refl s) n d⟩
theorem pd_lst (h : PA X es (upK K W Ts)) : PE X (.List es pos) (up K W (tKs Ts fLst)) := pf_pe (pf_lst h)
theorem pd_tup (h : PA X es (upK K W Ts)) : PE X (.Tuple es k1 pos) (up K W (tKs Ts fTup)) :=
  pe_ks (r := rTup) (PEc (pe_tup h) fun _ _ _ h => h) fun g H vs ds k Q s d e q => ⟨by rw [d.length]; exact e.1, fun p n => fin_new s q e.2 n fun g' le h => .tup h (d.more le)⟩
end
/-! ### statements -/
structure EndsD (Ω : Type) where
  nx : Gam Ω → Prop
  rt : Dat Ω → Gam Ω → Prop
  bk : Gam Ω → Prop := fun _ => False
  ct : Gam Ω → Prop := fun _ => False
abbrev DS (Ω : Type) := EndsD Ω → Gam Ω → Prop
structure Fits (K : PySem.W.Frag) (W : Obs Ω) (F : Hp) (g : Gh Ω) (E : EndsD Ω) (D : Ends) : Prop where
  nx : ∀ γ' σ' H' g', E.nx γ' → Le g g' → Rep K W F g' γ' σ' H' → D.nx σ' H'
  rt : ∀ d γ' v σ' H' g', E.rt d γ' → Le g g' → Rep K W F g' γ' σ' H' → DV K g' v d → D.rt v H'
  bk : ∀ γ' σ' H' g', E.bk γ' → Le g g' → Rep K W F g' γ' σ' H' → D.bk σ' H'
  ct : ∀ γ' σ' H' g', E.ct γ' → Le g g' → Rep K W F g' γ' σ' H' → D.ct σ' H'
theorem Fits.mono {F : Hp} {g g' : Gh Ω} {E : EndsD Ω} {D : Ends} (f : Fits K W F g E D) (le : Le g g') : Fits K W F g' E D :=
  ⟨fun a b c d e l r => f.nx a b c d e (le.tr l) r, fun a b c d e h i l r => f.rt a b c d e h i (le.tr l) r, fun a b c d e l r => f.bk a b c d e (le.tr l) r, fun a b c d e l r => f.ct a b c d e (le.tr l) r⟩
def upS (K : PySem.W.Frag) (W : Obs Ω) (T : DS Ω) : TS := fun D σ H => ∃ F g γ E, Rep K W F g γ σ H ∧ T E γ ∧ Fits K W F g E D
section
variable {X : Cx} {st : Stmt} {rest : List Stmt} {S U : DS Ω} {e : Expr} {T : DE Ω} {t : DT Ω} {pos : Pos}
def dNext : DS Ω := fun D γ => D.nx γ
def dSeq (S U : DS Ω) : DS Ω := fun D γ => S { D with nx := U D } γ
theorem sd0 : PSs X [] (upS K W dNext) := PSsc pss_nil fun D σ H ⟨F, g, γ, E, R, t, f⟩ => f.nx γ σ H g t (.refl g) R
theorem sdc (h1 : PS X st (upS K W S)) (h2 : PSs X rest (upS K W U)) : PSs X (st :: rest) (upS K W (dSeq S U)) := PSsc (pss_cons h1 h2) fun D σ H ⟨F, g, γ, E, R, t, f⟩ =>
  ⟨F, g, γ, _, R, t, fun γ' σ' H' g' hn le R' => ⟨F, g', γ', E, R', hn, f.mono le⟩, f.rt, f.bk, f.ct⟩
theorem sd1 (h1 : PS X st (upS K W S)) : PSs X [st] (upS K W S) := pss_one h1
theorem ds_pass : PS X (.Pass pos) (upS K W dNext) := PSc ps_pass fun D σ H ⟨F, g, γ, E, R, t, f⟩ => f.nx γ σ H g t (.refl g) R
theorem ds_break : PS X (.Break pos) (upS K W fun D γ => D.bk γ) := PSc ps_break fun D σ H ⟨F, g, γ, E, R, t, f⟩ => f.bk γ σ H g t (.refl g) R
theorem ds_cont : PS X (.Continue pos) (upS K W fun D γ => D.ct γ) := PSc ps_continue fun D σ H ⟨F, g, γ, E, R, t, f⟩ => f.ct γ σ H g t (.refl g) R
def dRet (T : DE Ω) : DS Ω := fun D γ => T γ D.rt
theorem ds_ret (h : PE X e (up K W T)) : PS X (.Return (some e) pos) (upS K W (dRet T)) := PSc (ps_ret h) fun D σ H ⟨F, g, γ, E, R, t, f⟩ =>
  ⟨F, g, γ, E.rt, R, t, fun d γ' v H' g' hq le R' dv => f.rt d γ' v σ H' g' hq le R' dv⟩
theorem ds_retN : PS X (.Return none pos) (upS K W fun D γ => D.rt .non γ) := PSc ps_retN fun D σ H ⟨F, g, γ, E, R, t, f⟩ => f.rt .non γ .non σ H g t (.refl g) R .non
def dDrop (T : DE Ω) : DS Ω := fun D γ => T γ fun _ γ' => D.nx γ'
theorem ds_expr (h : PE X e (up K W T)) (hs : swapsWith e none pos.line X.env = pure false := by rfl) : PS X (.Expr e pos) (upS K W (dDrop T)) := PSc (ps_expr h hs) fun D σ H ⟨F, g, γ, E, R, t, f⟩ =>
  ⟨F, g, γ, _, R, t, fun d γ' v H' g' hq le R' dv => f.nx γ' σ H' g' hq le R'⟩
def dIfS (t : DT Ω) (S U : DS Ω) : DS Ω := fun D γ => t γ fun c γ1 => if c = true then S D γ1 else U D γ1
theorem ds_if {c : Expr} {a b : List Stmt} (hc : PT X c (upT K W t)) (ha : PSs X a (upS K W S)) (hb : PSs X b (upS K W U)) : PS X (.If c a b pos) (upS K W (dIfS t S U)) := PSc (ps_if hc ha hb) fun D σ H ⟨F, g, γ, E, R, t, f⟩ =>
  ⟨F, g, γ, _, R, t, fun c γ' H' g' hq le R' => by
    cases c with
    | true => exact ⟨F, g', γ', E, R', hq, f.mono le⟩
    | false => exact ⟨F, g', γ', E, R', hq, f.mono le⟩⟩
/-! targets -/
abbrev DG (Ω : Type) := Dat Ω → Gam Ω → (Gam Ω → Prop) → Prop
/-- σ' is σ but for slots of ix -/
def But (ix : List Nat) (σ σ' : L2.St) : Prop := σ'.length = σ.length ∧ ∀ i, i ∉ ix → σ'[i]? = σ[i]?
theorem But.refl {ix : List Nat} {σ : L2.St} : But ix σ σ := ⟨rfl, fun _ _ => rfl⟩
theorem But.tr {a b : List Nat} {σ σ1 σ2 : L2.St} (h : But a σ σ1) (k : But b σ1 σ2) : But (a ++ b) σ σ2 := ⟨k.1.trans h.1, fun i n => (k.2 i fun z => n (List.mem_append_right _ z)).trans (h.2 i fun z => n (List.mem_append_left _ z))⟩
def upG (K : PySem.W.Frag) (W : Obs Ω) (ix : List Nat) (G : DG Ω) : TG := fun v σ H Q => ∃ F g γ d q, Rep K W F g γ σ H ∧ DV K g v d ∧ G d γ q ∧ ∀ γ' σ' H' g', q γ' → But ix σ σ' → Le g g' → Rep K W F g' γ' σ' H' → Q σ' H'
abbrev DGs (Ω : Type) := List (Dat Ω) → Gam Ω → (Gam Ω → Prop) → Prop
def upGs (K : PySem.W.Frag) (W : Obs Ω) (ix : List Nat) (G : DGs Ω) : TGs := fun vs σ H Q => ∃ F g γ ds q, Rep K W F g γ σ H ∧ DVs K g vs ds ∧ G ds γ q ∧ ∀ γ' σ' H' g', q γ' → But ix σ σ' → Le g g' → Rep K W F g' γ' σ' H' → Q σ' H'
theorem PGc {X : Cx} {e : Expr} {t t' : TG} (h : PG X e t) (k : ∀ v σ H Q, t' v σ H Q → t v σ H Q) : PG X e t' := ⟨fun pins s σ H v u Q I r q => h.run pins s σ H v u Q I r (k v σ H Q q)⟩
theorem PGsc {X : Cx} {e : List Expr} {t t' : TGs} (h : PGs X e t) (k : ∀ v σ H Q, t' v σ H Q → t v σ H Q) : PGs X e t' := ⟨fun pins s σ H v u Q I r q => h.run pins s σ H v u Q I r (k v σ H Q q)⟩
def gN (i : Nat) : DG Ω := fun d γ q => q (γ.set i (some (.dat d)))
theorem gd_name {tg : Expr} {i : Nat} (h : PG X tg (gName i)) : PG X tg (upG K W [i] (gN i)) := PGc h fun v σ H Q ⟨F, g, γ, d, q, R, dv, t, k⟩ => k _ _ H g t ⟨List.length_set, fun j n => List.getElem?_set_ne (fun z => n (by rw [z]; exact List.mem_cons_self))⟩ (.refl g) (R.setD i dv)
def gs0 : DGs Ω := fun ds γ q => match ds with
  | [] => q γ
  | _ => False
def gsC (G : DG Ω) (Gs : DGs Ω) : DGs Ω := fun ds γ q => match ds with
  | d :: r => G d γ fun γ' => Gs r γ' q
  | [] => False
theorem gsd0 : PGs X [] (upGs K W [] gs0) := PGsc pgs_nil fun v σ H Q ⟨F, g, γ, d, q, R, dv, t, k⟩ => by
  cases dv with
  | nil => exact ⟨rfl, k _ _ H g t .refl (.refl g) R⟩
  | cons h r => exact t.elim
theorem gsd1 {ix jx : List Nat} {G : DG Ω} {Gs : DGs Ω} {es : List Expr} (h1 : PG X e (upG K W ix G)) (h2 : PGs X es (upGs K W jx Gs)) (hs : (assignEach (e :: es) X.env).map (·.2) = assign e X.env :: (assignEach es X.env).map (·.2) := by rfl) : PGs X (e :: es) (upGs K W (ix ++ jx) (gsC G Gs)) :=
  PGsc (pgs_cons h1 h2 hs) fun v σ H Q ⟨F, g, γ, d, q, R, dv, t, k⟩ => by
    cases dv with
    | nil => exact t.elim
    | cons h r => exact ⟨_, _, rfl, F, g, γ, _, _, R, h, t, fun γ' σ' H' g' hq bu le R' => ⟨F, g', γ', _, q, R', r.more le, hq, fun γ2 σ2 H2 g2 a bu2 b c => k γ2 σ2 H2 g2 a (bu.tr bu2) (le.tr b) c⟩⟩
def gT (Gs : DGs Ω) : DG Ω := fun d γ q => match d with
  | .tup ds => Gs ds γ q
  | _ => False
theorem gd_tup {ix : List Nat} {es : List Expr} {n : Nat} {Gs : DGs Ω} {k1 : Nat} (h : PG X (.Tuple es k1 pos) (gTup X.K n (upGs K W ix Gs))) (hl : ∀ ds γ q, Gs ds γ q → ds.length = n) (hK : X.K = K := by rfl) : PG X (.Tuple es k1 pos) (upG K W ix (gT Gs)) := by
  subst hK
  refine PGc h fun v σ H Q ⟨F, g, γ, d, q, R, dv, t, k⟩ => ?_
  unfold gT at t
  split at t
  · rename_i ds
    obtain ⟨a, xs, e1, hq, r⟩ := (PV.dat (H := H) dv).tup R.sub
    exact ⟨a, xs, e1, hq, by rw [r.length]; exact hl _ _ _ t, F, g, γ, ds, q, R, r, t, k⟩
  · exact t.elim
theorem gsLen0 : ∀ (ds : List (Dat Ω)) γ q, gs0 ds γ q → ds.length = 0 := fun ds γ q h => by
  cases ds with
  | nil => rfl
  | cons _ _ => exact h.elim
theorem gsLenC {G : DG Ω} {Gs : DGs Ω} {n : Nat} (mono : ∀ d γ q, G d γ q → ∃ γ', q γ') (h : ∀ ds γ q, Gs ds γ q → ds.length = n) : ∀ (ds : List (Dat Ω)) γ q, gsC G Gs ds γ q → ds.length = n + 1 := fun ds γ q e => by
  cases ds with
  | nil => exact e.elim
  | cons d r =>
    obtain ⟨γ', z⟩ := mono d γ _ e
    rw [List.length_cons, h _ _ _ z]
theorem gN_mono {i : Nat} : ∀ (d : Dat Ω) γ q, gN i d γ q → ∃ γ', q γ' := fun d γ q h => ⟨_, h⟩
theorem gT_mono {Gs : DGs Ω} (h : ∀ ds γ q, Gs ds γ q → ∃ γ', q γ') : ∀ (d : Dat Ω) γ q, gT Gs d γ q → ∃ γ', q γ' := fun d γ q e => by
  unfold gT at e
  split at e
  · exact h _ _ _ e
  · exact e.elim
theorem gs0_mono : ∀ (ds : List (Dat Ω)) γ q, gs0 ds γ q → ∃ γ', q γ' := fun ds γ q h => by
  cases ds with
  | nil => exact ⟨_, h⟩
  | cons _ _ => exact h.elim
theorem gsC_mono {G : DG Ω} {Gs : DGs Ω} (m : ∀ d γ q, G d γ q → ∃ γ', q γ') (h : ∀ ds γ q, Gs ds γ q → ∃ γ', q γ') : ∀ (ds : List (Dat Ω)) γ q, gsC G Gs ds γ q → ∃ γ', q γ' := fun ds γ q e => by
  cases ds with
  | nil => exact e.elim
  | cons d r =>
    obtain ⟨γ', z⟩ := m d γ _ e
    exact h _ _ _ z
/-! stores -/
def dAsg (T : DE Ω) (G : DG Ω) : DS Ω := fun D γ => T γ fun d γ' => G d γ' D.nx
theorem ds_asg {ix : List Nat} {G : DG Ω} (h : PS X st (tAsg (up K W T) (upG K W ix G))) : PS X st (upS K W (dAsg T G)) := PSc h fun D σ H ⟨F, g, γ, E, R, t, f⟩ =>
  ⟨F, g, γ, _, R, t, fun d γ' v H' g' hq le R' dv => ⟨F, g', γ', d, _, R', dv, hq, fun γ2 σ2 H2 g2 a _ b c => f.nx γ2 σ2 H2 g2 a (le.tr b) c⟩⟩
def dSet (i : Nat) (T : DE Ω) : DS Ω := fun D γ => T γ fun d γ' => D.nx (γ'.set i (some (.dat d)))
theorem ds_set {i : Nat} (h : PS X st (tAsg (up K W T) (gName i))) : PS X st (upS K W (dSet i T)) := PSc h fun D σ H ⟨F, g, γ, E, R, t, f⟩ =>
  ⟨F, g, γ, _, R, t, fun d γ' v H' g' hq le R' dv => f.nx _ _ H' g' hq le (R'.setD i dv)⟩
/-- the new list is the name's own -/
def dSetF (i : Nat) (T : DE Ω) : DS Ω := fun D γ => T γ fun d γ' => match d with
  | .lst zs => D.nx (γ'.set i (some (.own zs)))
  | _ => False
theorem Rep.setNew {F : Hp} {g : Gh Ω} {γ : Gam Ω} {σ : L2.St} {H : Hp} (R : Rep K W F g γ σ H) (i : Nat) {L : Addr} {ws : List V} {zs : List (Dat Ω)} (n : H L = none) (r : DVs K g ws zs) : Rep K W F g (γ.set i (some (.own zs))) (σ.set i (some (.ref L))) (upd H L (.lst ws)) := by
  have G : Grow W g H g (upd H L (.lst ws)) := Grow.own R.sub n
  have gn : g L = none := gnone R.sub n
  refine (R.grow G).set i (s := .own zs) ⟨L, ws, rfl, gn, upd_same, r⟩ fun _ L' e => ?_
  cases e
  refine ⟨?_, fun j t e ot ej => ?_⟩
  · cases e : F L with
    | none => rfl
    | some u =>
      have := (R.fr L u e).1
      rw [n] at this
      cases this
  · obtain ⟨v, hv, ok⟩ := R.sl j t e
    rw [ej] at hv
    cases hv
    cases t with
    | dat d => cases ot
    | raw w => cases ot
    | own ds =>
      obtain ⟨L2, vs, e2, _, h2, _⟩ := ok
      cases e2
      rw [n] at h2
      cases h2
    | ownK ks ds =>
      obtain ⟨L2, vs, e2, _, h2, _⟩ := ok
      cases e2
      rw [n] at h2
      cases h2
    | box p m =>
      obtain ⟨e2, _, b0, b1, b2, h2, _⟩ := ok
      cases e2
      rw [n] at h2
      cases h2
theorem ds_setF {i : Nat} (h : PS X st (tAsg (upF K W T) (gName i))) : PS X st (upS K W (dSetF i T)) := PSc h fun D σ H ⟨F, g, γ, E, R, t, f⟩ =>
  ⟨F, g, γ, _, R, t, fun zs γ' ws L H1 g1 hq le R1 n r => f.nx _ _ _ g1 hq le (R1.setNew i n r)⟩
/-- a, b = x, y -/
def dPar (i j : Nat) (T U : DE Ω) : DS Ω := fun D γ => T γ fun d γ1 => U γ1 fun e γ2 => D.nx ((γ2.set i (some (.dat d))).set j (some (.dat e)))
theorem ds_par {i j : Nat} {U : DE Ω} (h : PS X st (tPar i j (upK K W [T, U]))) : PS X st (upS K W (dPar i j T U)) := PSc h fun D σ H ⟨F, g, γ, E, R, t, f⟩ =>
  evK_sound [T, U] R (r := fun ds γ' => match ds with
    | [d, e] => E.nx ((γ'.set i (some (.dat d))).set j (some (.dat e)))
    | _ => False) t fun ds γ' g' vs H' hq le R' dvs => by
    cases dvs with
    | nil => exact hq.elim
    | cons h1 r1 =>
      cases r1 with
      | nil => exact hq.elim
      | cons h2 r2 =>
        cases r2 with
        | nil => exact ⟨_, _, rfl, f.nx _ _ H' g' hq le ((R'.setD i h1).setD j h2)⟩
        | cons _ _ => exact hq.elim
end
end
end DL
set_option Elab.async false
set_option linter.all false
set_option maxRecDepth 100000
set_option maxHeartbeats 4000000
namespace DL
open PySem PySem.Spec PyProof.Rows L2 Nv
section
variable {Ω : Type} {K : PySem.W.Frag} {W : Obs Ω}
/-! ### owned things that change -/
theorem Rep.mut {F : Hp} {g : Gh Ω} {γ : Gam Ω} {σ : L2.St} {H : Hp} (R : Rep K W F g γ σ H) {i : Nat} {s s' : Sl Ω} {L : Addr} {o : HO} (e : γ[i]? = some (some s)) (os : s.owned = true) (ev : σ[i]? = some (some (.ref L))) (gn : g L = none)
    (ok : SlOk K g (upd H L o) (.ref L) s') : Rep K W F g (γ.set i (some s')) σ (upd H L o) := by
  have hl : i < γ.length := (List.getElem?_eq_some_iff.mp e).1
  have kp : ∀ a, a ≠ L → upd H L o a = H a := fun a h => upd_ne h
  refine ⟨by rw [List.length_set]; exact R.len, fun j t ej => ?_, fun a b s1 t L' ne ha hb o1 ot va vb => ?_, fun a u ea => ?_, fun a u ea => ?_, fun j t L' ej ot vj => ?_⟩
  · by_cases hj : i = j
    · subst hj
      rw [List.getElem?_set_self hl] at ej
      cases ej
      exact ⟨_, ev, ok⟩
    · rw [List.getElem?_set_ne hj] at ej
      obtain ⟨u, h1, h2⟩ := R.sl j t ej
      refine ⟨u, h1, ?_⟩
      cases t with
      | dat d => exact h2
      | own es =>
        obtain ⟨L2, ws, rfl, n2, e2, r2⟩ := h2
        have ne : L2 ≠ L := fun z => R.apart i j _ _ L hj e ej os rfl ev (by rw [h1, z])
        exact ⟨L2, ws, rfl, n2, by rw [kp _ ne]; exact e2, r2⟩
      | ownK ks es =>
        obtain ⟨L2, ws, rfl, n2, e2, l2, r2⟩ := h2
        have ne : L2 ≠ L := fun z => R.apart i j _ _ L hj e ej os rfl ev (by rw [h1, z])
        exact ⟨L2, ws, rfl, n2, by rw [kp _ ne]; exact e2, l2, r2⟩
      | box p m =>
        obtain ⟨rfl, n2, b0, b1, b2, hb, q⟩ := h2
        have ne : p ≠ L := fun z => R.apart i j _ _ L hj e ej os rfl ev (by rw [h1, z])
        exact ⟨rfl, n2, b0, b1, b2, by rw [kp _ ne]; exact hb, q⟩
      | raw w => exact h2
  · have fa : ∃ s0, γ[a]? = some (some s0) ∧ s0.owned = true := by
      by_cases z : i = a
      · subst z
        exact ⟨s, e, os⟩
      · rw [List.getElem?_set_ne z] at ha
        exact ⟨_, ha, o1⟩
    have fb : ∃ s0, γ[b]? = some (some s0) ∧ s0.owned = true := by
      by_cases z : i = b
      · subst z
        exact ⟨s, e, os⟩
      · rw [List.getElem?_set_ne z] at hb
        exact ⟨_, hb, ot⟩
    obtain ⟨sa, ea, oa⟩ := fa
    obtain ⟨sb, eb, ob⟩ := fb
    exact R.apart a b sa sb L' ne ea eb oa ob va vb
  · have ne : a ≠ L := fun z => by rw [z, gn] at ea; cases ea
    exact (R.sub a u ea).mono (.refl g) fun o' q => by rw [kp _ ne]; exact q
  · obtain ⟨h1, h2⟩ := R.fr a u ea
    have ne : a ≠ L := fun z => by
      have := R.fo i _ L e os ev
      rw [z, this] at ea
      cases ea
    exact ⟨by rw [kp _ ne]; exact h1, h2⟩
  · by_cases z : i = j
    · subst z
      exact R.fo i s L' e os vj
    · rw [List.getElem?_set_ne z] at ej
      exact R.fo j t L' ej ot vj
section
variable {X : Cx} {st : Stmt} {e o : Expr} {T : DE Ω} {pos apos cpos : Pos}
/-- x.append(e) -/
def dApp (i : Nat) (T : DE Ω) : DS Ω := fun D γ => match γ[i]? with
  | some (some (.own _)) => T γ fun d γ' => (match γ'[i]? with
    | some (some (.own ds)) => ds.length < sizeLine ∧ D.nx (γ'.set i (some (.own (ds ++ [d]))))
    | _ => False)
  | _ => False
theorem ds_app {i : Nat} (h : PS X st (tDrop (tBM X.K "list" rAppend (tVar i) (upK K W [T])))) : PS X st (upS K W (dApp i T)) := PSc h fun D σ H ⟨F, g, γ, E, R, t, f⟩ => by
  unfold dApp at t
  split at t
  · rename_i d0 h0
    obtain ⟨v, hv, L, vs, rfl, gn, hL, r⟩ := R.sl i _ h0
    refine ⟨_, hv, .inl ⟨rfl, _, SqL.of hL⟩, F, g, γ, _, R, t, fun d γ' y H' g' hq le R' dv => ?_⟩
    split at hq
    · rename_i ds h1
      obtain ⟨v', hv', L', ws, rfl, gn', hL', r'⟩ := R'.sl i _ h1
      rw [hv] at hv'
      cases hv'
      refine ⟨L, ws, y, rfl, rfl, hL', by rw [r'.length]; exact hq.1, ?_⟩
      exact f.nx _ _ _ g' hq.2 le (R'.mut h1 rfl hv gn' (s' := .own (ds ++ [d])) ⟨L, ws ++ [y], rfl, gn', upd_same, r'.append (.cons dv .nil)⟩)
    · exact hq.elim
  · exact t.elim
end
/-! ### what is walked -/
abbrev DI (Ω : Type) := Gam Ω → (List (Dat Ω) → Gam Ω → Prop) → Prop
structure WalkD (K : PySem.W.Frag) (W : Obs Ω) (g : Gh Ω) (J : It) (ds : List (Dat Ω)) : Prop where
  go : ∀ (i : Nat) (d : Dat Ω) g2 H, ds[i]? = some d → Le g g2 → Subs W g2 H → J.go i H ∧ ∀ x H', J.yld i H x H' → ∃ g3, Grow W g2 H g3 H' ∧ DV K g3 x d
  stop : ∀ (i : Nat) g2 H, ds.length ≤ i → Le g g2 → Subs W g2 H → J.stop i H
def upI (K : PySem.W.Frag) (W : Obs Ω) (T : DI Ω) : TI := fun σ H R => ∃ F g γ q, Rep K W F g γ σ H ∧ T γ q ∧ ∀ ds γ' H' g' J, q ds γ' → Le g g' → Rep K W F g' γ' σ H' → WalkD K W g' J ds → R J H'
theorem PIc {X : Cx} {tg it : Expr} {t t' : TI} (h : PI X tg it t) (k : ∀ σ H R, t' σ H R → t σ H R) : PI X tg it t' := ⟨fun pins s σ H R I q => h.run pins s σ H R I (k σ H R q)⟩
section
variable {X : Cx} {tg it e : Expr} {T U : DE Ω} {pos p : Pos}
def iL (T : DE Ω) : DI Ω := fun γ q => T γ fun d γ' => match d with
  | .lst ds => q ds γ'
  | _ => False
def iT (T : DE Ω) : DI Ω := fun γ q => T γ fun d γ' => match d with
  | .tup ds => q ds γ'
  | _ => False
theorem walk_L {g : Gh Ω} {a : Addr} {xs : List V} {ds : List (Dat Ω)} (h : g a = some (.ho (.lst xs))) (r : DVs K g xs ds) : WalkD K W g (Itl K a) ds where
  go := fun i d g2 H hi le s => by
    have hH : H a = some (.lst xs) := Real.ho s (le _ _ h)
    obtain ⟨v, hv, dv⟩ := r.at' i d hi
    refine ⟨⟨xs, v, SqL.of hH, hv⟩, fun x H' ⟨e, y⟩ => ?_⟩
    subst e
    have := y xs (SqL.of hH)
    rw [hv] at this
    cases this
    exact ⟨g2, .refl s, dv.more le⟩
  stop := fun i g2 H hi le s => ⟨xs, SqL.of (Real.ho s (le _ _ h)), by rw [r.length]; exact hi⟩
theorem walk_T {g : Gh Ω} {a : Addr} {xs : List V} {ds : List (Dat Ω)} (h : ∀ g2 H, Le g g2 → Subs W g2 H → SqT K H a xs) (r : DVs K g xs ds) : WalkD K W g (Itt K a) ds where
  go := fun i d g2 H hi le s => by
    have hH := h g2 H le s
    obtain ⟨v, hv, dv⟩ := r.at' i d hi
    refine ⟨⟨xs, v, hH, hv⟩, fun x H' ⟨e, y⟩ => ?_⟩
    subst e
    have := y xs hH
    rw [hv] at this
    cases this
    exact ⟨g2, .refl s, dv.more le⟩
  stop := fun i g2 H hi le s => ⟨xs, h g2 H le s, by rw [r.length]; exact hi⟩
theorem id_L (h : PE X e (up K W T)) (hK : X.K = K := by rfl) : PI X tg e (upI K W (iL T)) := by
  subst hK
  refine PIc (pi_list h) fun σ H R ⟨F, g, γ, q, Rp, t, k⟩ => ⟨F, g, γ, _, Rp, t, fun d γ' v H' g' hq le R' dv => ?_⟩
  cases dv with
  | lst h r => exact ⟨_, rfl, ⟨_, SqL.of (Real.ho R'.sub h)⟩, k _ γ' H' g' _ hq le R' (walk_L h r)⟩
  | _ => exact hq.elim
theorem id_T (h : PE X e (up K W T)) (hK : X.K = K := by rfl) : PI X tg e (upI K W (iT T)) := by
  subst hK
  refine PIc (pi_tup h) fun σ H R ⟨F, g, γ, q, Rp, t, k⟩ => ⟨F, g, γ, _, Rp, t, fun d γ' v H' g' hq le R' dv => ?_⟩
  cases dv with
  | tup h r => exact ⟨_, rfl, ⟨_, SqT.of (Real.ho R'.sub h)⟩, k _ γ' H' g' _ hq le R' (walk_T (fun g2 H2 l s => SqT.of (Real.ho s (l _ _ h))) r)⟩
  | _ => exact hq.elim
def rngD (lo : Int) (n : Nat) : List (Dat Ω) := (List.range n).map fun (i : Nat) => .int (lo + (i : Int))
theorem rngD_at {lo : Int} {n i : Nat} {d : Dat Ω} (h : (rngD lo n)[i]? = some d) : i < n ∧ d = .int (lo + i) := by
  unfold rngD at h
  rw [List.getElem?_map] at h
  by_cases hi : i < n
  · rw [List.getElem?_range hi] at h
    exact ⟨hi, (Option.some.inj h).symm⟩
  · rw [List.getElem?_eq_none (by rw [List.length_range]; omega)] at h
    cases h
theorem rngD_len {lo : Int} {n : Nat} : (rngD (Ω := Ω) lo n).length = n := by
  unfold rngD
  rw [List.length_map, List.length_range]
theorem walk_R {g : Gh Ω} {lo : Int} {n : Nat} : WalkD K W g (Itr lo n) (rngD lo n) where
  go := fun i d g2 H hi le s => by
    obtain ⟨h1, rfl⟩ := rngD_at hi
    refine ⟨h1, fun x H' ⟨e, y⟩ => ?_⟩
    subst e y
    exact ⟨g2, .refl s, .int _⟩
  stop := fun i g2 H hi le s => by
    rw [rngD_len] at hi
    exact hi
def iR1 (T : DE Ω) : DI Ω := fun γ q => T γ fun d γ' => match d with
  | .int n => (-(2 ^ 62) ≤ n ∧ n < 2 ^ 62) ∧ q (rngD 0 n.toNat) γ'
  | _ => False
def iR2 (T U : DE Ω) : DI Ω := fun γ q => T γ fun d γ1 => U γ1 fun e γ' => match d, e with
  | .int i, .int j => (-(2 ^ 62) ≤ i ∧ i < 2 ^ 62 ∧ -(2 ^ 62) ≤ j ∧ j < 2 ^ 62) ∧ q (rngD i (j - i).toNat) γ'
  | _, _ => False
theorem id_R1 (h : PI X tg it (iRng1 (upK K W [T]))) : PI X tg it (upI K W (iR1 T)) := PIc h fun σ H R ⟨F, g, γ, q, Rp, t, k⟩ => by
  refine evK_sound [T] Rp (r := fun ds γ' => match ds with
    | [.int n] => (-(2 ^ 62) ≤ n ∧ n < 2 ^ 62) ∧ q (rngD 0 n.toNat) γ'
    | _ => False) ?_ fun ds γ' g' vs H' hq le R' dvs => ?_
  · refine (show T γ _ from ?_)
    have : (fun d γ' => match d with
      | Dat.int n => (-(2 ^ 62) ≤ n ∧ n < 2 ^ 62) ∧ q (rngD 0 n.toNat) γ'
      | _ => False) = (fun (d : Dat Ω) (γ1 : Gam Ω) => evK [] γ1 fun ds γ' => (match d :: ds with
        | [Dat.int n] => (-(2 ^ 62) ≤ n ∧ n < 2 ^ 62) ∧ q (rngD 0 n.toNat) γ'
        | _ => False)) := by
      funext d γ1
      cases d <;> rfl
    rw [← this]
    exact t
  · split at hq
    · cases dvs with
      | cons h1 r => cases r; cases h1; exact ⟨_, rfl, hq.1.1, hq.1.2, k _ γ' H' g' _ hq.2 le R' walk_R⟩
    · exact hq.elim
theorem id_R2 (h : PI X tg it (iRng2 (upK K W [T, U]))) : PI X tg it (upI K W (iR2 T U)) := PIc h fun σ H R ⟨F, g, γ, q, Rp, t, k⟩ => by
  refine evK_sound [T, U] Rp (r := fun ds γ' => match ds with
    | [.int i, .int j] => (-(2 ^ 62) ≤ i ∧ i < 2 ^ 62 ∧ -(2 ^ 62) ≤ j ∧ j < 2 ^ 62) ∧ q (rngD i (j - i).toNat) γ'
    | _ => False) ?_ fun ds γ' g' vs H' hq le R' dvs => ?_
  · refine (show T γ _ from ?_)
    have : (fun d γ1 => U γ1 fun e γ' => match d, e with
      | Dat.int i, Dat.int j => (-(2 ^ 62) ≤ i ∧ i < 2 ^ 62 ∧ -(2 ^ 62) ≤ j ∧ j < 2 ^ 62) ∧ q (rngD i (j - i).toNat) γ'
      | _, _ => False) = (fun (d : Dat Ω) (γ1 : Gam Ω) => evK [U] γ1 fun ds γ' => (match d :: ds with
        | [Dat.int i, Dat.int j] => (-(2 ^ 62) ≤ i ∧ i < 2 ^ 62 ∧ -(2 ^ 62) ≤ j ∧ j < 2 ^ 62) ∧ q (rngD i (j - i).toNat) γ'
        | _ => False)) := by
      funext d γ1
      show U γ1 _ = U γ1 _
      congr 1
      funext e γ2
      cases d <;> cases e <;> rfl
    rw [← this]
    exact t
  · split at hq
    · cases dvs with
      | cons h1 r => cases r with | cons h2 r => cases r; cases h1; cases h2; exact ⟨_, _, rfl, hq.1, k _ γ' H' g' _ hq.2 le R' walk_R⟩
    · exact hq.elim
def signsD (z : Str) : List (Dat Ω) := z.cps.toList.map fun c => .str ⟨#[c]⟩
def iS (T : DE Ω) : DI Ω := fun γ q => T γ fun d γ' => match d with
  | .str z => q (signsD z) γ'
  | _ => False
theorem id_S (h : PE X e (up K W T)) : PI X tg e (upI K W (iS T)) := PIc (pi_str h) fun σ H R ⟨F, g, γ, q, Rp, t, k⟩ => ⟨F, g, γ, _, Rp, t, fun d γ' v H' g' hq le R' dv => by
  cases dv with
  | str z =>
    refine ⟨z, rfl, k _ γ' H' g' _ hq le R' ⟨fun i d g2 H hi le s => ?_, fun i g2 H hi le s => ?_⟩⟩
    · unfold signsD at hi
      rw [List.getElem?_map] at hi
      cases hc : z.cps.toList[i]? with
      | none => rw [hc] at hi; cases hi
      | some c =>
        rw [hc] at hi
        cases hi
        have hl : i < z.cps.toList.length := (List.getElem?_eq_some_iff.mp hc).1
        refine ⟨by rw [Array.length_toList] at hl; exact hl, fun x H' ⟨e, c', hc', ex⟩ => ?_⟩
        subst e ex
        have : z.cps.toList[i]? = some c' := by rw [Array.getElem?_toList]; exact hc'
        rw [hc] at this
        cases this
        exact ⟨g2, .refl s, .str _⟩
    · unfold signsD at hi
      rw [List.length_map, Array.length_toList] at hi
      exact hi
  | _ => exact hq.elim⟩
end
/-! ### for -/
section
variable {X : Cx} {tg it : Expr} {st : Stmt} {TI : DI Ω} {G : DG Ω} {S : DS Ω}
structure loopD (G : DG Ω) (S : DS Ω) (D : EndsD Ω) (ds : List (Dat Ω)) (γ1 : Gam Ω) : Prop where
  ex : ∃ J : Nat → Gam Ω → Prop, J 0 γ1 ∧
    (∀ (i : Nat) (d : Dat Ω) γ, ds[i]? = some d → J i γ → G d γ fun γ2 => S { D with nx := J (i + 1), ct := J (i + 1), bk := D.nx } γ2) ∧ ∀ γ, J ds.length γ → D.nx γ
def dFor (TI : DI Ω) (G : DG Ω) (S : DS Ω) : DS Ω := fun D γ => TI γ fun ds γ1 => loopD G S D ds γ1
theorem ds_for {ix : List Nat} (h : PS X st (tFor (upI K W TI) (upG K W ix G) (upS K W S))) : PS X st (upS K W (dFor TI G S)) := PSc h fun D σ H ⟨F, g, γ, E, R, t, f⟩ =>
  ⟨F, g, γ, _, R, t, fun ds γ1 H1 g1 J hq le R1 wk => by
    obtain ⟨P, p0, ps, pe⟩ := hq.ex
    refine ⟨fun i m σ' H' => m = ds.length - i ∧ i ≤ ds.length ∧ ∃ γ' g', P i γ' ∧ Le g1 g' ∧ Rep K W F g' γ' σ' H', ⟨_, rfl, Nat.zero_le _, γ1, g1, p0, .refl g1, R1⟩, ?_⟩
    rintro i m σ' H' ⟨rfl, hi, γ', g', hp, le', R'⟩
    by_cases hlt : i < ds.length
    · have hd : ds[i]? = some ds[i] := List.getElem?_eq_getElem hlt
      obtain ⟨w1, w2⟩ := wk.go i _ g' H' hd le' R'.sub
      refine .inr ⟨w1, fun σ2 H2 => ∃ γ2 g2, P (i + 1) γ2 ∧ Le g1 g2 ∧ Rep K W F g2 γ2 σ2 H2, fun σ2 H2 ⟨γ2, g2, a, b, c⟩ => ⟨_, by omega, rfl, by omega, γ2, g2, a, b, c⟩, fun x H2 y => ?_⟩
      obtain ⟨g3, G3, dv⟩ := w2 x H2 y
      refine ⟨F, g3, γ', _, _, R'.grow G3, dv, ps i _ γ' hd hp, fun γ4 σ4 H4 g4 hs _ le4 R4 => ?_⟩
      have l4 : Le g1 g4 := (le'.tr G3.le).tr le4
      refine ⟨F, g4, γ4, _, R4, hs, ⟨fun γ5 σ5 H5 g5 a b c => ⟨γ5, g5, a, l4.tr b, c⟩, fun d γ5 v σ5 H5 g5 a b c e => f.rt d γ5 v σ5 H5 g5 a ((le.tr l4).tr b) c e, fun γ5 σ5 H5 g5 a b c => f.nx γ5 σ5 H5 g5 a ((le.tr l4).tr b) c, fun γ5 σ5 H5 g5 a b c => ⟨γ5, g5, a, l4.tr b, c⟩⟩⟩
    · have e : i = ds.length := by omega
      subst e
      exact .inl ⟨wk.stop _ g' H' (Nat.le_refl _) le' R'.sub, f.nx γ' σ' H' g' (pe γ' hp) (le.tr le') R'⟩⟩
end
/-! ### comprehensions -/
def wipeG (γ : Gam Ω) : List Nat → Gam Ω
  | [] => γ
  | v :: vs => (wipeG γ vs).set v none
theorem Rep.wipe {F : Hp} {g : Gh Ω} {γ : Gam Ω} {σ : L2.St} {H : Hp} (R : Rep K W F g γ σ H) : ∀ vs, Rep K W F g (wipeG γ vs) (L2.wipe σ vs) H
  | [] => R
  | v :: vs => (R.wipe vs).unset v none
theorem wipeG_in : ∀ {vs : List Nat} {γ : Gam Ω} {i : Nat} {s : Sl Ω}, (wipeG γ vs)[i]? = some (some s) → γ[i]? = some (some s) ∧ i ∉ vs
  | [], γ, i, s, h => ⟨h, by simp⟩
  | v :: vs, γ, i, s, h => by
    unfold wipeG at h
    by_cases hv : v = i
    · subst hv
      by_cases hl : v < (wipeG γ vs).length
      · rw [List.getElem?_set_self hl] at h
        cases h
      · rw [List.getElem?_eq_none (by rw [List.length_set]; omega)] at h
        cases h
    · rw [List.getElem?_set_ne hv] at h
      obtain ⟨h1, h2⟩ := wipeG_in h
      exact ⟨h1, fun z => (List.mem_cons.mp z).elim (fun e => hv e.symm) h2⟩
/-- slots that are not known may hold anything -/
theorem Rep.of_out {F : Hp} {g : Gh Ω} {γ : Gam Ω} {σ σ' : L2.St} {H : Hp} (R : Rep K W F g γ σ H) (hl : σ'.length = σ.length) (k : ∀ (i : Nat) s, γ[i]? = some (some s) → σ'[i]? = σ[i]?) : Rep K W F g γ σ' H where
  len := hl.trans R.len
  sl := fun i s e => by
    obtain ⟨v, h1, h2⟩ := R.sl i s e
    exact ⟨v, by rw [k i s e]; exact h1, h2⟩
  apart := fun i j s t L ne a b c d e f => R.apart i j s t L ne a b c d (by rw [← k i s a]; exact e) (by rw [← k j t b]; exact f)
  sub := R.sub
  fr := R.fr
  fo := fun i s L a b c => R.fo i s L a b (by rw [← k i s a]; exact c)
def hdel (H : Hp) (a : Addr) : Hp := fun b => if b = a then none else H b
theorem hdel_upd {H : Hp} {a : Addr} {o : HO} (h : H a = some o) : upd (hdel H a) a o = H := by
  funext b
  unfold upd hdel
  by_cases e : b = a
  · rw [if_pos e, e, h]
  · rw [if_neg e, if_neg e]
theorem Rep.foreign {F : Hp} {g : Gh Ω} {γ : Gam Ω} {σ : L2.St} {H : Hp} {D : Addr} {o : HO} (R : Rep K W F g γ σ H) (n : H D = none) : Rep K W (upd F D o) g γ σ (upd H D o) := by
  have G : Grow W g H g (upd H D o) := Grow.own R.sub n
  have R1 := R.grow G
  refine ⟨R1.len, R1.sl, R1.apart, R1.sub, fun a u e => ?_, fun i s L e os ev => ?_⟩
  · by_cases ha : a = D
    · subst ha
      rw [upd_same] at e
      cases e
      exact ⟨upd_same, gnone R.sub n⟩
    · rw [upd_ne ha] at e
      exact R1.fr a u e
  · have ne : L ≠ D := fun z => by
      subst z
      obtain ⟨v, hv, ok⟩ := R.sl i s e
      rw [ev] at hv
      cases hv
      cases s with
      | dat d => cases os
      | raw w => cases os
      | own ds =>
        obtain ⟨L2, vs, e2, _, h2, _⟩ := ok
        cases e2
        rw [n] at h2
        cases h2
      | ownK ks ds =>
        obtain ⟨L2, vs, e2, _, h2, _⟩ := ok
        cases e2
        rw [n] at h2
        cases h2
      | box p m =>
        obtain ⟨e2, _, b0, b1, b2, h2, _⟩ := ok
        cases e2
        rw [n] at h2
        cases h2
    rw [upd_ne ne]
    exact R1.fo i s L e os ev
/-- the foreign thing is another one now -/
theorem Rep.refor {F : Hp} {g : Gh Ω} {γ : Gam Ω} {σ : L2.St} {H : Hp} {D : Addr} {o o' : HO} (R : Rep K W (upd F D o) g γ σ H) : Rep K W (upd F D o') g γ σ (upd H D o') := by
  have gn : g D = none := (R.fr D o upd_same).2
  have fo : ∀ (i : Nat) (s : Sl Ω) L, γ[i]? = some (some s) → s.owned = true → σ[i]? = some (some (.ref L)) → L ≠ D := fun i s L e os ev z => by
    have := R.fo i s L e os ev
    rw [z, upd_same] at this
    cases this
  have kp : ∀ a, a ≠ D → upd H D o' a = H a := fun a h => upd_ne h
  refine ⟨R.len, fun i s e => ?_, R.apart, fun a u e => ?_, fun a u e => ?_, fun i s L e os ev => ?_⟩
  · obtain ⟨v, hv, ok⟩ := R.sl i s e
    refine ⟨v, hv, ?_⟩
    cases s with
    | dat d => exact ok
    | raw w => exact ok
    | own ds =>
      obtain ⟨L, vs, rfl, n, h2, r⟩ := ok
      exact ⟨L, vs, rfl, n, by rw [kp _ (fo i _ L e rfl hv)]; exact h2, r⟩
    | ownK ks ds =>
      obtain ⟨L, vs, rfl, n, h2, l, r⟩ := ok
      exact ⟨L, vs, rfl, n, by rw [kp _ (fo i _ L e rfl hv)]; exact h2, l, r⟩
    | box p m =>
      obtain ⟨rfl, n, b0, b1, b2, h2, r⟩ := ok
      exact ⟨rfl, n, b0, b1, b2, by rw [kp _ (fo i _ p e rfl hv)]; exact h2, r⟩
  · have ne : a ≠ D := fun z => by rw [z, gn] at e; cases e
    exact (R.sub a u e).mono (.refl g) fun o2 q => by rw [kp _ ne]; exact q
  · by_cases ha : a = D
    · subst ha
      rw [upd_same] at e
      cases e
      exact ⟨upd_same, gn⟩
    · rw [upd_ne ha] at e
      have := R.fr a u (by rw [upd_ne ha]; exact e)
      exact ⟨by rw [kp _ ha]; exact this.1, this.2⟩
  · have := R.fo i s L e os ev
    have ne := fo i s L e os ev
    rw [upd_ne ne] at this ⊢
    exact this
theorem Rep.home {F : Hp} {g : Gh Ω} {γ : Gam Ω} {σ : L2.St} {H : Hp} {D : Addr} {o : HO} (R : Rep K W (upd F D o) g γ σ H) (fn : F D = none) : Rep K W F g γ σ (hdel H D) := by
  have gn : g D = none := (R.fr D o upd_same).2
  have fo : ∀ (i : Nat) (s : Sl Ω) L, γ[i]? = some (some s) → s.owned = true → σ[i]? = some (some (.ref L)) → L ≠ D := fun i s L e os ev z => by
    have := R.fo i s L e os ev
    rw [z, upd_same] at this
    cases this
  have kp : ∀ a, a ≠ D → hdel H D a = H a := fun a h => if_neg h
  refine ⟨R.len, fun i s e => ?_, R.apart, fun a u e => ?_, fun a u e => ?_, fun i s L e os ev => ?_⟩
  · obtain ⟨v, hv, ok⟩ := R.sl i s e
    refine ⟨v, hv, ?_⟩
    cases s with
    | dat d => exact ok
    | raw w => exact ok
    | own ds =>
      obtain ⟨L, vs, rfl, n, h2, r⟩ := ok
      exact ⟨L, vs, rfl, n, by rw [kp _ (fo i _ L e rfl hv)]; exact h2, r⟩
    | ownK ks ds =>
      obtain ⟨L, vs, rfl, n, h2, l, r⟩ := ok
      exact ⟨L, vs, rfl, n, by rw [kp _ (fo i _ L e rfl hv)]; exact h2, l, r⟩
    | box p m =>
      obtain ⟨rfl, n, b0, b1, b2, h2, r⟩ := ok
      exact ⟨rfl, n, b0, b1, b2, by rw [kp _ (fo i _ p e rfl hv)]; exact h2, r⟩
  · have ne : a ≠ D := fun z => by rw [z, gn] at e; cases e
    exact (R.sub a u e).mono (.refl g) fun o2 q => by rw [kp _ ne]; exact q
  · have ha : a ≠ D := fun z => by rw [z, fn] at e; cases e
    have := R.fr a u (by rw [upd_ne ha]; exact e)
    exact ⟨by rw [kp _ ha]; exact this.1, this.2⟩
  · have := R.fo i s L e os ev
    rw [upd_ne (fo i s L e os ev)] at this
    exact this
section
variable {X : Cx} {TI : DI Ω} {G : DG Ω} {t : DT Ω} {T : DE Ω} {vs ix : List Nat}
structure compD (vs : List Nat) (G : DG Ω) (t : DT Ω) (T : DE Ω) (q : Dat Ω → Gam Ω → Prop) (ds : List (Dat Ω)) (γ1 : Gam Ω) : Prop where
  ex : ∃ J : Nat → List (Dat Ω) → Gam Ω → Prop, J 0 [] (wipeG γ1 vs) ∧
  (∀ (i : Nat) (d : Dat Ω) acc γ, ds[i]? = some d → J i acc γ → G d γ fun γ2 => t γ2 fun b γ3 => if b = true then T γ3 fun y γ4 => acc.length < sizeLine ∧ J (i + 1) (acc ++ [y]) (wipeG γ4 vs) else J (i + 1) acc (wipeG γ3 vs)) ∧
  ∀ acc γ, J ds.length acc γ → q (.lst acc) γ
def dComp (vs : List Nat) (TI : DI Ω) (G : DG Ω) (t : DT Ω) (T : DE Ω) : DE Ω := fun γ q => TI γ fun ds γ1 => compD vs G t T q ds γ1
theorem wipe_but {σ σ' : L2.St} {vs ix : List Nat} (h : But ix σ σ') (hi : ∀ i ∈ ix, i ∈ vs) : L2.wipe σ' vs = L2.wipe σ vs := by
  apply List.ext_getElem?
  intro i
  by_cases hv : i ∈ vs
  · have e1 : ∀ s : L2.St, (L2.wipe s vs)[i]? = if i < s.length then some none else none := by
      intro s
      have hn : ∀ x, (L2.wipe s vs)[i]? ≠ some (some x) := fun x hx => (wipe_some hx).2 hv
      by_cases hl : i < s.length
      · rw [if_pos hl]
        have hl2 : i < (L2.wipe s vs).length := by rw [wipe_length]; exact hl
        rw [List.getElem?_eq_getElem hl2]
        cases hz : (L2.wipe s vs)[i] with
        | none => rfl
        | some x => exact absurd (by rw [List.getElem?_eq_getElem hl2, hz]) (hn x)
      · rw [if_neg hl, List.getElem?_eq_none (by rw [wipe_length]; omega)]
    rw [e1, e1, h.1]
  · rw [wipe_out hv, wipe_out hv]
    exact h.2 i fun z => hv (hi i z)
theorem lc_up (hi : ∀ i ∈ ix, i ∈ vs) : ∀ σ H Q, upF K W (dComp vs TI G t T) σ H Q → tLc (upI K W TI) (upG K W ix G) (upT K W t) (up K W T) vs σ H Q := fun σ H Q ⟨F, g, γ, q, R, e, k⟩ =>
  ⟨F, g, γ, _, R, e, fun ds γ1 H1 g1 Ji hq le R1 wk D nD => by
    obtain ⟨P, p0, ps, pe⟩ := hq.ex
    have fn : F D = none := by
      cases h : F D with
      | none => rfl
      | some u =>
        have := (R1.fr D u h).1
        rw [nD] at this
        cases this
    have back : ∀ {F' g' γ' σ' H'}, Rep K W F' g' γ' σ' H' → L2.wipe σ' vs = L2.wipe σ vs → Rep K W F' g' (wipeG γ' vs) (L2.wipe σ vs) H' := fun {F' g' γ' σ' H'} R' e => by
      rw [← e]
      exact R'.wipe vs
    refine ⟨fun i m H' => m = ds.length - i ∧ i ≤ ds.length ∧ ∃ acc ws γ' g', P i acc γ' ∧ Le g1 g' ∧ DVs K g' ws acc ∧ H' D = some (.lst ws) ∧ Rep K W (upd F D (.lst ws)) g' γ' (L2.wipe σ vs) H' ∧ (∀ (i : Nat) s, γ'[i]? = some (some s) → i ∉ vs), ⟨_, rfl, Nat.zero_le _, [], [], wipeG γ1 vs, g1, p0, .refl g1, .nil, upd_same, (R1.wipe vs).foreign nD, fun i s e => (wipeG_in e).2⟩, ?_⟩
    rintro i m H' ⟨rfl, hi', acc, ws, γ', g', hp, le', dvs, hD, R', out⟩
    by_cases hlt : i < ds.length
    · have hd : ds[i]? = some ds[i] := List.getElem?_eq_getElem hlt
      obtain ⟨w1, w2⟩ := wk.go i _ g' H' hd le' R'.sub
      refine .inr ⟨w1, fun H2 => ∃ acc ws γ2 g2, P (i + 1) acc γ2 ∧ Le g1 g2 ∧ DVs K g2 ws acc ∧ H2 D = some (.lst ws) ∧ Rep K W (upd F D (.lst ws)) g2 γ2 (L2.wipe σ vs) H2 ∧ (∀ (i : Nat) s, γ2[i]? = some (some s) → i ∉ vs), fun H2 ⟨a, b, c, d, e, f, h, j, l, o⟩ => ⟨_, by omega, rfl, by omega, a, b, c, d, e, f, h, j, l, o⟩, fun x H2 y => ?_⟩
      obtain ⟨g3, G3, dv⟩ := w2 x H2 y
      refine ⟨_, g3, γ', _, _, R'.grow G3, dv, ps i _ acc γ' hd hp, fun γ4 σ4 H4 g4 hs bu le4 R4 => ⟨?_, ?_⟩⟩
      · rw [wipe_but bu hi]
        have : ∀ (s : L2.St) (l : List Nat), L2.wipe (L2.wipe s vs) l = L2.wipe (L2.wipe s vs) l := fun _ _ => rfl
        apply List.ext_getElem?
        intro j
        by_cases hj : j ∈ vs
        · by_cases hl : j < σ.length
          · have hl2 : j < (L2.wipe (L2.wipe σ vs) vs).length := by rw [wipe_length, wipe_length]; exact hl
            have hl3 : j < (L2.wipe σ vs).length := by rw [wipe_length]; exact hl
            rw [List.getElem?_eq_getElem hl2, List.getElem?_eq_getElem hl3]
            cases h1 : (L2.wipe (L2.wipe σ vs) vs)[j] with
            | some x => exact absurd hj (wipe_some (by rw [List.getElem?_eq_getElem hl2, h1])).2
            | none =>
              cases h2 : (L2.wipe σ vs)[j] with
              | some x => exact absurd hj (wipe_some (by rw [List.getElem?_eq_getElem hl3, h2])).2
              | none => rfl
          · rw [List.getElem?_eq_none (by rw [wipe_length, wipe_length]; omega), List.getElem?_eq_none (by rw [wipe_length]; omega)]
        · rw [wipe_out hj]
      · have w4 : L2.wipe σ4 vs = L2.wipe σ vs := by
          rw [wipe_but bu hi]
          apply List.ext_getElem?
          intro j
          by_cases hj : j ∈ vs
          · by_cases hl : j < σ.length
            · have hl2 : j < (L2.wipe (L2.wipe σ vs) vs).length := by rw [wipe_length, wipe_length]; exact hl
              have hl3 : j < (L2.wipe σ vs).length := by rw [wipe_length]; exact hl
              rw [List.getElem?_eq_getElem hl2, List.getElem?_eq_getElem hl3]
              cases h1 : (L2.wipe (L2.wipe σ vs) vs)[j] with
              | some x => exact absurd hj (wipe_some (by rw [List.getElem?_eq_getElem hl2, h1])).2
              | none =>
                cases h2 : (L2.wipe σ vs)[j] with
                | some x => exact absurd hj (wipe_some (by rw [List.getElem?_eq_getElem hl3, h2])).2
                | none => rfl
            · rw [List.getElem?_eq_none (by rw [wipe_length, wipe_length]; omega), List.getElem?_eq_none (by rw [wipe_length]; omega)]
          · rw [wipe_out hj]
        have l4 : Le g1 g4 := (le'.tr G3.le).tr le4
        refine ⟨_, g4, γ4, _, R4, hs, fun b γ5 H5 g5 hb le5 R5 => ?_⟩
        cases b with
        | false => exact ⟨acc, ws, _, g5, hb, l4.tr le5, dvs.more ((G3.le.tr le4).tr le5), (R5.fr D _ upd_same).1, back R5 w4, fun i s e => (wipeG_in e).2⟩
        | true =>
          refine ⟨_, g5, γ5, _, R5, hb, fun d γ6 v H6 g6 hv le6 R6 dv6 => ⟨ws, (R6.fr D _ upd_same).1, ?_, ?_⟩⟩
          · have := dvs.length
            omega
          · refine ⟨acc ++ [d], ws ++ [v], _, g6, hv.2, (l4.tr le5).tr le6, (dvs.more (((G3.le.tr le4).tr le5).tr le6)).append (.cons dv6 .nil), upd_same, (back R6 w4).refor, fun i s e => (wipeG_in e).2⟩
    · have e : i = ds.length := by omega
      subst e
      refine .inl ⟨wk.stop _ g' H' (Nat.le_refl _) le' R'.sub, ?_⟩
      have R2 : Rep K W F g' γ' σ (hdel H' D) := (R'.home fn).of_out (wipe_length σ vs).symm fun i s e => (wipe_out (out i s e)).symm
      have := k acc γ' ws D (hdel H' D) g' (pe acc γ' hp) (le.tr le') R2 (if_pos rfl) dvs
      rw [hdel_upd hD] at this
      exact this⟩
end
end
end DL
set_option Elab.async false
set_option linter.all false
set_option maxRecDepth 100000
set_option maxHeartbeats 4000000
namespace DL
open PySem PySem.Spec PyProof.Rows L2 Nv
section
variable {Ω : Type} {K : PySem.W.Frag} {W : Obs Ω}
/-! ### promises over data -/
structure Frm (W : Obs Ω) (F : Hp) (g : Gh Ω) (H : Hp) : Prop where
  sub : Subs W g H
  fr : ∀ a o, F a = some o → H a = some o ∧ g a = none
/-- data in, a datum out -/
def spP (K : PySem.W.Frag) (W : Obs Ω) (f : FD Ω) : Sp := fun vs H Q _ => ∃ F g ds q, Frm W F g H ∧ DVs K g vs ds ∧ f ds q ∧ ∀ d v g' H', q d → Le g g' → Frm W F g' H' → DV K g' v d → Q v H'
/-- a box and data in -/
def spB (K : PySem.W.Frag) (W : Obs Ω) (f : Nat → List (Dat Ω) → (Dat Ω → Nat → Prop) → Prop) : Sp := fun vs H Q _ => ∃ F g p m ws ds q, vs = .ref p :: ws ∧ Frm W F g H ∧ F p = none ∧ g p = none ∧ BoxAt H p m ∧ DVs K g ws ds ∧ f m ds q ∧
  ∀ d m' v g' H', q d m' → Le g g' → Frm W F g' H' → g' p = none → BoxAt H' p m' → DV K g' v d → Q v H'
/-- take's own -/
def ButP (p : Addr) (H H' : Hp) : Prop := ∀ c o, c ≠ p → H c = some o → H' c = some o
def spTk : Sp := fun vs H Q _ => ∃ (p : Addr) (m : Nat) (many : Int), vs = [.ref p, .int many] ∧ BoxAt H p m ∧ m ≤ 1000000 ∧ 0 < many ∧ many ≤ 100000 ∧ ∀ r H', 0 ≤ r → r < many → BoxAt H' p (m + 1) → ButP p H H' → Q (.int r) H'
def ent (N : List Str) (ds : List (Dat Ω)) : Gam Ω := ds.map (fun d => some (.dat d)) ++ List.replicate (N.length - ds.length) none
def entB (N : List Str) (p : Addr) (m : Nat) (ds : List (Dat Ω)) : Gam Ω := some (.box p m) :: (ds.map (fun d => some (.dat d)) ++ List.replicate (N.length - (ds.length + 1)) none)
theorem ent_at {N : List Str} {ds : List (Dat Ω)} {i : Nat} {s : Sl Ω} (h : (ent N ds)[i]? = some (some s)) : ∃ d, ds[i]? = some d ∧ s = .dat d := by
  unfold ent at h
  by_cases hi : i < ds.length
  · rw [List.getElem?_append_left (by rw [List.length_map]; exact hi), List.getElem?_map, List.getElem?_eq_getElem hi] at h
    exact ⟨ds[i], List.getElem?_eq_getElem hi, (Option.some.inj (Option.some.inj h)).symm⟩
  · rw [List.getElem?_append_right (by rw [List.length_map]; omega), List.getElem?_replicate] at h
    split at h
    · cases h
    · cases h
theorem start_at {N : List Str} {vs : List V} {i : Nat} {v : V} (h : vs[i]? = some v) : (L2.start N vs)[i]? = some (some v) := by
  have hi : i < vs.length := (List.getElem?_eq_some_iff.mp h).1
  unfold L2.start
  rw [List.getElem?_append_left (by rw [List.length_map]; exact hi), List.getElem?_map, h]
  rfl
theorem rep_ent {F : Hp} {g : Gh Ω} {H : Hp} {N : List Str} {vs : List V} {ds : List (Dat Ω)} (f : Frm W F g H) (r : DVs K g vs ds) : Rep K W F g (ent N ds) (L2.start N vs) H where
  len := by
    unfold ent L2.start
    rw [List.length_append, List.length_append, List.length_map, List.length_map, List.length_replicate, List.length_replicate, r.length]
  sl := fun i s h => by
    obtain ⟨d, hd, rfl⟩ := ent_at h
    obtain ⟨v, hv, dv⟩ := r.at' i d hd
    exact ⟨v, start_at hv, dv⟩
  apart := fun i j s t L ne a b c d e f => by
    obtain ⟨d, hd, rfl⟩ := ent_at a
    cases c
  sub := f.sub
  fr := f.fr
  fo := fun i s L a b c => by
    obtain ⟨d, hd, rfl⟩ := ent_at a
    cases b
theorem entB_at {N : List Str} {p : Addr} {m : Nat} {ds : List (Dat Ω)} {i : Nat} {s : Sl Ω} (h : (entB N p m ds)[i]? = some (some s)) : (i = 0 ∧ s = .box p m) ∨ ∃ j d, i = j + 1 ∧ ds[j]? = some d ∧ s = .dat d := by
  cases i with
  | zero =>
    have h : some (some (Sl.box p m)) = some (some s) := h
    cases h
    exact .inl ⟨rfl, rfl⟩
  | succ j =>
    have h : (ds.map (fun d => some (Sl.dat d)) ++ List.replicate (N.length - (ds.length + 1)) none)[j]? = some (some s) := h
    by_cases hi : j < ds.length
    · rw [List.getElem?_append_left (by rw [List.length_map]; exact hi), List.getElem?_map, List.getElem?_eq_getElem hi] at h
      exact .inr ⟨j, ds[j], rfl, List.getElem?_eq_getElem hi, (Option.some.inj (Option.some.inj h)).symm⟩
    · rw [List.getElem?_append_right (by rw [List.length_map]; omega), List.getElem?_replicate] at h
      split at h
      · cases h
      · cases h
theorem rep_entB {F : Hp} {g : Gh Ω} {H : Hp} {N : List Str} {p : Addr} {m : Nat} {vs : List V} {ds : List (Dat Ω)} (f : Frm W F g H) (fp : F p = none) (gp : g p = none) (b : BoxAt H p m) (r : DVs K g vs ds) : Rep K W F g (entB N p m ds) (L2.start N (.ref p :: vs)) H where
  len := by
    have h1 := r.length
    unfold entB L2.start
    simp only [List.length_cons, List.length_append, List.length_map, List.length_replicate]
    omega
  sl := fun i s h => by
    rcases entB_at h with ⟨rfl, rfl⟩ | ⟨j, d, rfl, hd, rfl⟩
    · exact ⟨.ref p, rfl, rfl, gp, b⟩
    · obtain ⟨v, hv, dv⟩ := r.at' j d hd
      exact ⟨v, start_at (vs := .ref p :: vs) (i := j + 1) (by simpa using hv), dv⟩
  apart := fun i j s t L ne a b c d e f => by
    rcases entB_at a with ⟨rfl, rfl⟩ | ⟨j1, d1, rfl, hd, rfl⟩
    · rcases entB_at b with ⟨rfl, rfl⟩ | ⟨j2, d2, rfl, hd, rfl⟩
      · exact ne rfl
      · cases d
    · cases c
  sub := f.sub
  fr := f.fr
  fo := fun i s L a b c => by
    rcases entB_at a with ⟨rfl, rfl⟩ | ⟨j1, d1, rfl, hd, rfl⟩
    · have : (L2.start N (.ref p :: vs))[0]? = some (some (.ref p)) := start_at rfl
      rw [this] at c
      cases c
      exact fp
    · cases b
section
variable {P : Program} {w : World} {mg : Str → Option Value} {base : Heap}
theorem fnP {x qual : Str} {st : Stmt} {f : Addr} {fd : FuncData} {N ps : List Str} {k : Nat} {fD : FD Ω} (Fn : Fun K x qual st f fd) (S : FnScope N ps (defScope st)) (len : ∀ ds q, fD ds q → ds.length = ps.length)
    (body : ∀ (cdv : Value) (A : Around) (outer : List Env) (s : Shared) (H : Hp) (E : XK), Room k (A.deeper (envOfC qual (defScope st) s.heap.objs.size f cdv)) →
      ∃ T, PSs (cxOf CX0 P w K mg base N qual (defScope st) f cdv A outer s H E).nox (defBody st) (upS K W T) ∧ ∀ ds q, fD ds q → T { nx := fun _ => q .non, rt := fun d _ => q d } (ent N ds)) : FnOk P w K mg base CX0 (k + 1) f fd ps (spP K W fD) := by
  refine Fn.ok S (fun vs H Q E ⟨F, g, ds, q, fr, dvs, hf, _⟩ => by rw [dvs.length]; exact len ds q hf) fun cdv A outer s H vs Q E hr ⟨F, g, ds, q, fr, dvs, hf, k⟩ => ?_
  obtain ⟨T, h, b⟩ := body cdv A outer s H E hr
  refine ⟨_, h, F, g, ent N ds, _, rep_ent fr dvs, b ds q hf, ⟨fun γ' σ' H' g' e le R => ?_, fun d γ' v σ' H' g' e le R dv => ?_, fun γ' σ' H' g' e le R => e.elim, fun γ' σ' H' g' e le R => e.elim⟩⟩
  · exact k .non .non g' H' e le ⟨R.sub, R.fr⟩ .non
  · exact k d v g' H' e le ⟨R.sub, R.fr⟩ dv
theorem fnB {x qual : Str} {st : Stmt} {f : Addr} {fd : FuncData} {N ps : List Str} {k : Nat} {fD : Nat → List (Dat Ω) → (Dat Ω → Nat → Prop) → Prop} (Fn : Fun K x qual st f fd) (S : FnScope N ps (defScope st)) (len : ∀ m ds q, fD m ds q → ds.length + 1 = ps.length)
    (body : ∀ (cdv : Value) (A : Around) (outer : List Env) (s : Shared) (H : Hp) (E : XK), Room k (A.deeper (envOfC qual (defScope st) s.heap.objs.size f cdv)) →
      ∃ T, PSs (cxOf CX0 P w K mg base N qual (defScope st) f cdv A outer s H E).nox (defBody st) (upS K W T) ∧ ∀ p m ds q, fD m ds q → T { nx := fun γ => ∃ m', γ[0]? = some (some (.box p m')) ∧ q .non m', rt := fun d γ => ∃ m', γ[0]? = some (some (.box p m')) ∧ q d m' } (entB N p m ds)) : FnOk P w K mg base CX0 (k + 1) f fd ps (spB K W fD) := by
  refine Fn.ok S (fun vs H Q E ⟨F, g, p, m, ws, ds, q, ev, fr, fp, gp, b, dvs, hf, _⟩ => by rw [ev, List.length_cons, dvs.length]; exact len m ds q hf) fun cdv A outer s H vs Q E hr ⟨F, g, p, m, ws, ds, q, ev, fr, fp, gp, bx, dvs, hf, k⟩ => ?_
  subst ev
  obtain ⟨T, h, b⟩ := body cdv A outer s H E hr
  refine ⟨_, h, F, g, entB N p m ds, _, rep_entB fr fp gp bx dvs, b p m ds q hf, ⟨fun γ' σ' H' g' ⟨m', e0, e⟩ le R => ?_, fun d γ' v σ' H' g' ⟨m', e0, e⟩ le R dv => ?_, fun γ' σ' H' g' e le R => e.elim, fun γ' σ' H' g' e le R => e.elim⟩⟩
  · obtain ⟨v, hv, rfl, gn, bx'⟩ := R.sl 0 _ e0
    exact k .non m' .non g' H' e le ⟨R.sub, R.fr⟩ gn bx' .non
  · obtain ⟨v, hv, rfl, gn, bx'⟩ := R.sl 0 _ e0
    exact k d m' _ g' H' e le ⟨R.sub, R.fr⟩ gn bx' dv
end
/-! ### calls -/
theorem Rep.after {F : Hp} {g g' : Gh Ω} {γ : Gam Ω} {σ : L2.St} {H H' : Hp} (R : Rep K W F g γ σ H) (le : Le g g') (s : Subs W g' H') (k : ∀ a o, H a = some o → g a = none → H' a = some o ∧ g' a = none) : Rep K W F g' γ σ H' where
  len := R.len
  sl := fun i t e => by
    obtain ⟨v, h1, h2⟩ := R.sl i t e
    refine ⟨v, h1, ?_⟩
    cases t with
    | dat d => exact DV.more le h2
    | own ds =>
      obtain ⟨L, vs, rfl, n, hl, r⟩ := h2
      exact ⟨L, vs, rfl, (k _ _ hl n).2, (k _ _ hl n).1, r.more le⟩
    | ownK ks ds =>
      obtain ⟨L, vs, rfl, n, hl, l, r⟩ := h2
      exact ⟨L, vs, rfl, (k _ _ hl n).2, (k _ _ hl n).1, l, r.more le⟩
    | box p m =>
      obtain ⟨rfl, n, b0, b1, b2, hp, r⟩ := h2
      exact ⟨rfl, (k _ _ hp n).2, b0, b1, b2, (k _ _ hp n).1, r⟩
    | raw w => exact h2
  apart := R.apart
  sub := s
  fr := fun a o e => by
    obtain ⟨h1, h2⟩ := R.fr a o e
    exact k a o h1 h2
  fo := R.fo
/-- .. but for the box at slot i -/
theorem Rep.afterB {F : Hp} {g g' : Gh Ω} {γ : Gam Ω} {σ : L2.St} {H H' : Hp} {i : Nat} {p : Addr} {m m' : Nat} (R : Rep K W F g γ σ H) (e : γ[i]? = some (some (.box p m))) (le : Le g g') (s : Subs W g' H') (k : ∀ a o, a ≠ p → H a = some o → g a = none → H' a = some o ∧ g' a = none)
    (gp : g' p = none) (b : BoxAt H' p m') : Rep K W F g' (γ.set i (some (.box p m'))) σ H' := by
  have hl : i < γ.length := (List.getElem?_eq_some_iff.mp e).1
  obtain ⟨v, hv, rfl, gn, b0⟩ := R.sl i _ e
  refine ⟨by rw [List.length_set]; exact R.len, fun j t ej => ?_, fun a b s1 t L' ne ha hb o1 ot va vb => ?_, s, fun a o e => ?_, fun j t L' ej ot vj => ?_⟩
  · by_cases hj : i = j
    · subst hj
      rw [List.getElem?_set_self hl] at ej
      cases ej
      exact ⟨_, hv, rfl, gp, b⟩
    · rw [List.getElem?_set_ne hj] at ej
      obtain ⟨u, h1, h2⟩ := R.sl j t ej
      refine ⟨u, h1, ?_⟩
      have ap : ∀ L, t.owned = true → u = .ref L → L ≠ p := fun L ot eu z => R.apart i j _ _ p hj e ej rfl ot hv (by rw [h1, eu, z])
      cases t with
      | dat d => exact DV.more le h2
      | own ds =>
        obtain ⟨L, vs, rfl, n, hl, r⟩ := h2
        have := k L _ (ap L rfl rfl) hl n
        exact ⟨L, vs, rfl, this.2, this.1, r.more le⟩
      | ownK ks ds =>
        obtain ⟨L, vs, rfl, n, hl, l, r⟩ := h2
        have := k L _ (ap L rfl rfl) hl n
        exact ⟨L, vs, rfl, this.2, this.1, l, r.more le⟩
      | box p2 m2 =>
        obtain ⟨rfl, n, c0, c1, c2, hp, r⟩ := h2
        have := k p2 _ (ap p2 rfl rfl) hp n
        exact ⟨rfl, this.2, c0, c1, c2, this.1, r⟩
      | raw w => exact h2
  · have fa : ∃ s0, γ[a]? = some (some s0) ∧ s0.owned = true := by
      by_cases z : i = a
      · subst z
        exact ⟨_, e, rfl⟩
      · rw [List.getElem?_set_ne z] at ha
        exact ⟨_, ha, o1⟩
    have fb : ∃ s0, γ[b]? = some (some s0) ∧ s0.owned = true := by
      by_cases z : i = b
      · subst z
        exact ⟨_, e, rfl⟩
      · rw [List.getElem?_set_ne z] at hb
        exact ⟨_, hb, ot⟩
    obtain ⟨sa, ea, oa⟩ := fa
    obtain ⟨sb, eb, ob⟩ := fb
    exact R.apart a b sa sb L' ne ea eb oa ob va vb
  · obtain ⟨h1, h2⟩ := R.fr a o e
    have ne : a ≠ p := fun z => by
      have := R.fo i _ p ‹_› rfl hv
      rw [z, this] at e
      cases e
    exact k a o ne h1 h2
  · by_cases z : i = j
    · subst z
      exact R.fo i _ L' e rfl vj
    · rw [List.getElem?_set_ne z] at ej
      exact R.fo j t L' ej ot vj
section
variable {X : Cx} {e : Expr} {Ts : List (DE Ω)} {T : DE Ω}
/-- f(e, ..) of data -/
theorem pd_callP {fD : FD Ω} {E : XK} (h : PE X e (tCall (spP K W fD) [] E (upK K W Ts))) : PE X e (up K W (tKs Ts fD)) := PEc h fun σ H Q ⟨F, g, γ, q, R, t, k⟩ =>
  evK_sound Ts R t fun ds γ' g' vs H' hf le R' dvs => by
    rw [List.append_nil]
    refine ⟨fun a => match g' a with | none => H' a | some _ => none, g', ds, _, ⟨R'.sub, fun a o ea => ?_⟩, dvs, hf, fun d v g2 H2 hq le2 fr dv => ?_⟩
    · cases hg : g' a with
      | none =>
        simp only [hg] at ea
        exact ⟨ea, rfl⟩
      | some u =>
        simp only [hg] at ea
        cases ea
    · exact k d γ' v H2 g2 hq (le.tr le2) (R'.after le2 fr.sub fun a o ha hn => fr.fr a o (by simp only [hn]; exact ha)) dv
/-- f(box, e, ..) -/
def tCB' (i : Nat) (Ts : List (DE Ω)) (fD : Nat → List (Dat Ω) → (Dat Ω → Nat → Prop) → Prop) : DE Ω := fun γ q => match γ[i]? with
  | some (some (.box _ _)) => evK Ts γ fun ds γ' => (match γ'[i]? with
    | some (some (.box p m)) => fD m ds fun d m' => q d (γ'.set i (some (.box p m')))
    | _ => False)
  | _ => False
theorem pd_callBx {i : Nat} {fD : Nat → List (Dat Ω) → (Dat Ω → Nat → Prop) → Prop} {E : XK} (h : PE X e (tCall (spB K W fD) [] E (tCons (tVar i) (upK K W Ts)))) : PE X e (up K W (tCB' i Ts fD)) := PEc h fun σ H Q ⟨F, g, γ, q, R, t, k⟩ => by
  unfold tCB' at t
  split at t
  · rename_i p0 m0 e0
    obtain ⟨v, hv, rfl, gn, b0⟩ := R.sl i _ e0
    refine ⟨_, hv, evK_sound Ts R t fun ds γ' g' vs H' hf le R' dvs => ?_⟩
    show spB K W fD ((.ref p0 :: vs) ++ []) H' Q E
    rw [List.append_nil]
    split at hf
    · rename_i p m e1
      obtain ⟨v1, hv1, rfl, gn1, b1⟩ := R'.sl i _ e1
      rw [hv] at hv1
      cases hv1
      refine ⟨fun a => if a = p0 then none else (match g' a with | none => H' a | some _ => none), g', p0, m, vs, ds, _, rfl, ⟨R'.sub, fun a o ea => ?_⟩, if_pos rfl, gn1, b1, dvs, hf, fun d m' v g2 H2 hq le2 fr gp bx dv => ?_⟩
      · by_cases ha : a = p0
        · simp only [if_pos ha] at ea
          cases ea
        · simp only [if_neg ha] at ea
          cases hg : g' a with
          | none =>
            simp only [hg] at ea
            exact ⟨ea, rfl⟩
          | some u =>
            simp only [hg] at ea
            cases ea
      · exact k d _ v H2 g2 hq (le.tr le2) (R'.afterB e1 le2 fr.sub (fun a o na ha hn => fr.fr a o (by simp only [if_neg na, hn]; exact ha)) gp bx) dv
    · exact hf.elim
  · exact t.elim
/-- take -/
def tTk (i : Nat) (T : DE Ω) : DE Ω := fun γ q => match γ[i]? with
  | some (some (.box _ _)) => T γ fun d γ' => (match d, γ'[i]? with
    | .int many, some (some (.box p m)) => (m ≤ 1000000 ∧ 0 < many ∧ many ≤ 100000) ∧ ∀ r, 0 ≤ r → r < many → q (.int r) (γ'.set i (some (.box p (m + 1))))
    | _, _ => False)
  | _ => False
theorem pd_take {i : Nat} {E : XK} (h : PE X e (tCall spTk [] E (tCons (tVar i) (upK K W [T])))) : PE X e (up K W (tTk i T)) := PEc h fun σ H Q ⟨F, g, γ, q, R, t, k⟩ => by
  unfold tTk at t
  split at t
  · rename_i p0 m0 e0
    obtain ⟨v, hv, rfl, gn, b0⟩ := R.sl i _ e0
    refine ⟨_, hv, F, g, γ, _, R, t, fun d γ' y H' g' hq le R' dv => ?_⟩
    split at hq
    · rename_i d1 o1 many p m e1
      obtain ⟨v1, hv1, rfl, gn1, b1⟩ := R'.sl i _ e1
      rw [hv] at hv1
      cases hv1
      cases dv
      refine ⟨p0, m, many, rfl, b1, hq.1.1, hq.1.2.1, hq.1.2.2, fun r H2 r0 r1 bx bu => ?_⟩
      refine k _ _ _ H2 g' (hq.2 r r0 r1) le (R'.afterB e1 (.refl g') (fun a o ea => ?_) (fun a o na ha hn => ⟨bu a o na ha, hn⟩) gn1 bx) (.int r)
      have ne : a ≠ p0 := fun z => by rw [z, gn1] at ea; cases ea
      exact (R'.sub a o ea).mono (.refl g') fun o' q => bu a o' ne q
    · exact hq.elim
  · exact t.elim
end
end
end DL
set_option Elab.async false
set_option linter.all false
set_option maxRecDepth 100000
set_option maxHeartbeats 4000000
namespace DL
open PySem PySem.Spec PyProof.Rows L2 Nv
section
variable {Ω : Type} {K : PySem.W.Frag} {W : Obs Ω}
/-! ### a op b op' c, of ints -/
def dChain (h h' : Int → Int → Bool) (T U V : DE Ω) : DE Ω := fun γ q => T γ fun a γ1 => U γ1 fun b γ2 => match a, b with
  | .int i, .int j => if h i j = true then V γ2 fun c γ3 => (match c with | .int k => q (.bl (h' j k)) γ3 | _ => False) else q (.bl false) γ2
  | _, _ => False
section
variable {X : Cx} {a b c : Expr} {T U V : DE Ω} {pos : Pos}
theorem chain_up {h h' : Int → Int → Bool} : ∀ σ H Q, up K W (dChain h h' T U V) σ H Q → tChain (rI0 fun i j => .bl (h i j)) (rI0 fun i j => .bl (h' i j)) (up K W T) (up K W U) (up K W V) σ H Q := fun σ H Q ⟨F, g, γ, q, R, t, k⟩ =>
  ⟨F, g, γ, _, R, t, fun d γ1 v H1 g1 h1 le1 R1 dv => ⟨F, g1, γ1, _, R1, h1, fun e γ2 w H2 g2 h2 le2 R2 dw => by
    split at h2
    · rename_i i j
      cases dv
      cases dw
      refine ⟨i, j, rfl, rfl, _, rfl, ?_⟩
      by_cases c : h i j = true
      · rw [if_pos c] at h2
        rw [if_pos c]
        refine ⟨F, g2, γ2, _, R2, h2, fun e γ3 w H3 g3 h3 le3 R3 dw => ?_⟩
        split at h3
        · cases dw
          exact ⟨_, _, rfl, rfl, k _ γ3 _ H3 g3 h3 ((le1.tr le2).tr le3) R3 (.bl _)⟩
        · exact h3.elim
      · rw [if_neg c] at h2
        rw [if_neg c]
        exact k _ γ2 _ H2 g2 h2 (le1.tr le2) R2 (.bl _)
    · exact h2.elim⟩⟩
theorem pt_ch {op op' : CmpOp} {h h' : Int → Int → Bool} (ho : OpR X (compareOp op) (rI0 fun i j => .bl (h i j))) (ho' : OpR X (compareOp op') (rI0 fun i j => .bl (h' i j))) (ha : PE X a (up K W T)) (hb : PE X b (up K W U)) (hc : PE X c (up K W V))
    (hm : lastMarks [op, op'] [b, c] = false := by with_unfolding_all rfl) : PT X (.Compare a [op, op'] [b, c] pos) (upT K W (tB' (dChain h h' T U V))) := ptest (PTc (pt_chain ho ho' ha hb hc hm) fun _ _ _ h => h) chain_up
theorem pd_ch {op op' : CmpOp} {h h' : Int → Int → Bool} (ho : OpR X (compareOp op) (rI0 fun i j => .bl (h i j))) (ho' : OpR X (compareOp op') (rI0 fun i j => .bl (h' i j))) (ha : PE X a (up K W T)) (hb : PE X b (up K W U)) (hc : PE X c (up K W V))
    (hm : lastMarks [op, op'] [b, c] = false := by with_unfolding_all rfl) : PE X (.Compare a [op, op'] [b, c] pos) (up K W (dChain h h' T U V)) := PEc (pe_chain ho ho' ha hb hc hm) chain_up
end
/-! ### built-ins by name -/
theorem pd_cb {X : Cx} {e : Expr} {As : List (Opn Ω)} {r : List V → Hp → VK → Prop} {f : FD Ω} (hp : PE X e (tCB r (upA K W As))) (od : OpD K W r f) : PE X e (up K W (tOps As f)) := pe_ops (r := r) (PEc hp fun _ _ _ h => h) od
theorem pf_cb {X : Cx} {e : Expr} {As : List (Opn Ω)} {r : List V → Hp → VK → Prop} {f : FD Ω} (hp : PE X e (tCB r (upA K W As))) (od : OpF K W r f) : PE X e (upF K W (tOps As f)) := pf_ops (r := r) (PEc hp fun _ _ _ h => h) od
def fLen : FD Ω
  | [.lst ds], k => k (.int ds.length)
  | [.tup ds], k => k (.int ds.length)
  | [.str z], k => z.length ≤ sizeLine ∧ k (.int z.length)
  | _, _ => False
def rLenA (K : PySem.W.Frag) : List V → Hp → VK → Prop := fun xs H Q => (∃ p ys, xs = [.ref p] ∧ (SqL K H p ys ∨ SqT K H p ys) ∧ Q (.int ys.length) H) ∨ (∃ z, xs = [.str z] ∧ z.length ≤ sizeLine ∧ Q (.int z.length) H)
theorem call_lenA {X : Cx} : CallR X (.builtin "len") (rLenA X.K) := CallR.or call_len_seq call_len_str
theorem od_len : OpD K W (rLenA K) fLen := by
  intro g H vs ds k Q s p e q
  unfold fLen at e
  split at e
  · cases p with
    | cons p1 p =>
      cases p
      obtain ⟨a, xs, rfl, ha, r⟩ := p1.lst s
      exact .inl ⟨a, xs, rfl, .inl (SqL.of ha), by rw [r.length]; exact q _ _ _ _ e (.refl s) (.int _)⟩
  · cases p with
    | cons p1 p =>
      cases p
      obtain ⟨a, xs, rfl, ha, r⟩ := p1.tup s
      exact .inl ⟨a, xs, rfl, .inr ha, by rw [r.length]; exact q _ _ _ _ e (.refl s) (.int _)⟩
  · cases p with | cons p1 p => cases p; cases p1.str; exact .inr ⟨_, rfl, e.1, q _ _ _ _ e.2 (.refl s) (.int _)⟩
  · exact e.elim
def fMax2 : FD Ω
  | [.int i, .int j], k => k (.int (if j > i then j else i))
  | _, _ => False
def fMin2 : FD Ω
  | [.int i, .int j], k => k (.int (if j < i then j else i))
  | _, _ => False
def fAbs : FD Ω
  | [.int i], k => k (.int (if i < 0 then -i else i))
  | _, _ => False
theorem od_max2 : OpD K W (fun xs H Q => ∃ i j, xs = [.int i, .int j] ∧ Q (.int (if j > i then j else i)) H) fMax2 := by
  intro g H vs ds k Q s p e q
  unfold fMax2 at e
  split at e
  · cases p with | cons p1 p => cases p with | cons p2 p => cases p; cases p1.int; cases p2.int; exact ⟨_, _, rfl, q _ _ _ _ e (.refl s) (.int _)⟩
  · exact e.elim
theorem od_min2 : OpD K W (fun xs H Q => ∃ i j, xs = [.int i, .int j] ∧ Q (.int (if j < i then j else i)) H) fMin2 := by
  intro g H vs ds k Q s p e q
  unfold fMin2 at e
  split at e
  · cases p with | cons p1 p => cases p with | cons p2 p => cases p; cases p1.int; cases p2.int; exact ⟨_, _, rfl, q _ _ _ _ e (.refl s) (.int _)⟩
  · exact e.elim
theorem od_abs : OpD K W (fun xs H Q => ∃ i, xs = [.int i] ∧ Q (.int (if i < 0 then -i else i)) H) fAbs := by
  intro g H vs ds k Q s p e q
  unfold fAbs at e
  split at e
  · cases p with | cons p1 p => cases p; cases p1.int; exact ⟨_, rfl, q _ _ _ _ e (.refl s) (.int _)⟩
  · exact e.elim
def fInt : FD Ω
  | [.int i], k => k (.int i)
  | [.bl b], k => k (.int (if b then 1 else 0))
  | _, _ => False
theorem od_int : OpD K W (fun xs H Q => (∃ i, xs = [.int i] ∧ Q (.int i) H) ∨ ∃ k, xs = [.bl k] ∧ Q (.int (if k then 1 else 0)) H) fInt := by
  intro g H vs ds k Q s p e q
  unfold fInt at e
  split at e
  · cases p with | cons p1 p => cases p; cases p1.int; exact .inl ⟨_, rfl, q _ _ _ _ e (.refl s) (.int _)⟩
  · cases p with | cons p1 p => cases p; cases p1.bl; exact .inr ⟨_, rfl, q _ _ _ _ e (.refl s) (.int _)⟩
  · exact e.elim
def fStr : FD Ω
  | [.int i], k => i.natAbs.log2 < 1920 ∧ k (.str (Str.ofString (toString i)))
  | _, _ => False
theorem od_str : OpD K W (fun xs H Q => ∃ i, xs = [.int i] ∧ i.natAbs.log2 < 1920 ∧ Q (.str (Str.ofString (toString i))) H) fStr := by
  intro g H vs ds k Q s p e q
  unfold fStr at e
  split at e
  · cases p with | cons p1 p => cases p; cases p1.int; exact ⟨_, rfl, e.1, q _ _ _ _ e.2 (.refl s) (.str _)⟩
  · exact e.elim
theorem call_str_i {X : Cx} : CallR X (.type "str") (fun xs H Q => ∃ i, xs = [.int i] ∧ i.natAbs.log2 < 1920 ∧ Q (.str (Str.ofString (toString i))) H) := call_str_int
/-- list(x) -/
def fListOf : FD Ω
  | [.lst ds], k => k (.lst ds)
  | [.tup ds], k => k (.lst ds)
  | _, _ => False
def rListOf (K : PySem.W.Frag) : List V → Hp → VK → Prop := fun xs H Q => ∃ p ys, xs = [.ref p] ∧ (SqL K H p ys ∨ SqT K H p ys) ∧ ∀ l, H l = none → Q (.ref l) (upd H l (.lst ys))
theorem call_listOf {X : Cx} : CallR X (.type "list") (rListOf X.K) := call_list_of
theorem of_list : OpF K W (rListOf K) fListOf := by
  intro g H vs ds k Q s p e q
  unfold fListOf at e
  split at e
  · cases p with
    | cons p1 p =>
      cases p
      obtain ⟨a, xs, rfl, ha, r⟩ := p1.lst s
      exact ⟨a, xs, rfl, .inl (SqL.of ha), fun l n => q _ _ _ _ _ e (.refl s) n r⟩
  · cases p with
    | cons p1 p =>
      cases p
      obtain ⟨a, xs, rfl, ha, r⟩ := p1.tup s
      exact ⟨a, xs, rfl, .inr ha, fun l n => q _ _ _ _ _ e (.refl s) n r⟩
  · exact e.elim
/-- tuple(x) -/
def fTupOf : FD Ω
  | [.lst ds], k => k (.tup ds)
  | [.tup ds], k => k (.tup ds)
  | _, _ => False
def rTupOf (K : PySem.W.Frag) : List V → Hp → VK → Prop := fun xs H Q => ∃ p ys, xs = [.ref p] ∧ ((SqL K H p ys ∧ ∀ l, H l = none → Q (.ref l) (upd H l (.tup ys))) ∨ (SqT K H p ys ∧ Q (.ref p) H))
theorem call_tupOf {X : Cx} : CallR X (.type "tuple") (rTupOf X.K) := call_tuple_of
theorem od_tup : OpD K W (rTupOf K) fTupOf := by
  intro g H vs ds k Q s p e q
  unfold fTupOf at e
  split at e
  · cases p with
    | cons p1 p =>
      cases p
      obtain ⟨a, xs, rfl, ha, r⟩ := p1.lst s
      exact ⟨a, xs, rfl, .inl ⟨SqL.of ha, fun l n => fin_new s q e n fun g' le h => .tup h (r.more le)⟩⟩
  · cases p with
    | cons p1 p =>
      cases p
      cases p1 with
      | dat p1 =>
        obtain ⟨a, xs, e1, ha, r⟩ := (PV.dat (H := H) p1).tup s
        subst e1
        exact ⟨a, xs, rfl, .inr ⟨ha, q _ _ _ _ e (.refl s) p1⟩⟩
  · exact e.elim
/-- all(x), any(x): a list of bools -/
def fAll (any : Bool) : FD Ω
  | [.lst ds], k => ∃ bs : List Bool, ds = bs.map Dat.bl ∧ k (.bl (if any then bs.any id else bs.all id))
  | _, _ => False
theorem dvs_bl {g : Gh Ω} : ∀ {vs : List V} (bs : List Bool), DVs K g vs (bs.map Dat.bl) → vs = bs.map V.bl
  | _, [], h => by
    cases h
    rfl
  | _, b :: bs, h => by
    cases h with
    | cons h r =>
      cases h
      rw [dvs_bl bs r]
      rfl
theorem od_all : OpD K W (rAll K) (fAll false) := by
  intro g H vs ds k Q s p e q
  unfold fAll at e
  split at e
  · obtain ⟨bs, rfl, e⟩ := e
    cases p with
    | cons p1 p =>
      cases p
      obtain ⟨a, xs, rfl, ha, r⟩ := p1.lst s
      cases dvs_bl bs r
      exact ⟨a, bs, rfl, SqL.of ha, q _ _ _ _ e (.refl s) (.bl _)⟩
  · exact e.elim
theorem od_any : OpD K W (rAny K) (fAll true) := by
  intro g H vs ds k Q s p e q
  unfold fAll at e
  split at e
  · obtain ⟨bs, rfl, e⟩ := e
    cases p with
    | cons p1 p =>
      cases p
      obtain ⟨a, xs, rfl, ha, r⟩ := p1.lst s
      cases dvs_bl bs r
      exact ⟨a, bs, rfl, SqL.of ha, q _ _ _ _ e (.refl s) (.bl _)⟩
  · exact e.elim
/-! ### texts -/
def strsOf : List (Dat Ω) → Option (List Str)
  | [] => some []
  | .str z :: r => (strsOf r).map (z :: ·)
  | _ => none
theorem dvs_str {g : Gh Ω} : ∀ {vs : List V} {ds : List (Dat Ω)} {bs : List Str}, DVs K g vs ds → strsOf ds = some bs → vs = bs.map V.str
  | _, _, bs, .nil, e => by
    cases e
    rfl
  | _, _, bs, .cons (d := d) (ds := ds) h r, e => by
    cases h with
    | str b =>
      unfold strsOf at e
      cases h2 : strsOf ds with
      | none => rw [h2] at e; cases e
      | some cs =>
        rw [h2] at e
        cases e
        rw [dvs_str r h2]
        rfl
    | _ => cases e
def fJoin : FD Ω
  | [.str a, .lst ds], k => ∃ ys, strsOf ds = some ys ∧ (ys.map (·.length)).sum + ys.length * a.length ≤ 16777216 ∧ k (.str (Txt.join a ys))
  | _, _ => False
/-- a method of a text, one argument -/
def tMS (T : DE Ω) (As : List (Opn Ω)) (f : FD Ω) : DE Ω := fun γ q => T γ fun a γ1 => match a with
  | .str z => evL As γ1 fun os γ2 => late As os γ2 fun ds => f (.str z :: ds) fun r => q r γ2
  | _ => False
def rcv (r : V → List V → Hp → VK → Prop) : List V → Hp → VK → Prop := fun vs H Q => match vs with
  | x :: xs => r x xs H Q
  | _ => False
theorem pd_m1 {X : Cx} {e : Expr} {T : DE Ω} {B : Opn Ω} {r : V → List V → Hp → VK → Prop} {f : FD Ω} (h : PE X e (tM1 r (up K W T) (upO K W B))) (od : OpD K W (rcv r) f) : PE X e (up K W (tMS T [B] f)) := PEc h fun σ H Q ⟨F, g, γ, q, R, t, k⟩ =>
  ⟨F, g, γ, _, R, t, fun d γ1 v H1 g1 h1 le1 R1 dv => by
    split at h1
    · rename_i z
      cases dv
      refine ⟨⟨z, rfl⟩, ?_⟩
      have := ev_sound [B] R1 h1 (Q := fun vs H' => r (.str z) vs H' Q) fun os γ' g' vs H' l le R' tm => by
        obtain ⟨ds, hf, pv⟩ := late_sound R' tm l
        exact od g' H' (.str z :: vs) (.str z :: ds) _ Q R'.sub (.cons (.dat (.str z)) pv) hf fun y w g2 H2 hz G dv => k y γ' w H2 g2 hz ((le1.tr le).tr G.le) (R'.grow G) dv
      exact this
    · exact h1.elim⟩
theorem pd_bmS {X : Cx} {e : Expr} {T : DE Ω} {As : List (Opn Ω)} {r : V → List V → Hp → VK → Prop} {f : FD Ω} (h : PE X e (tBM X.K "str" r (up K W T) (upA K W As))) (od : OpD K W (rcv r) f) : PE X e (up K W (tMS T As f)) := PEc h fun σ H Q ⟨F, g, γ, q, R, t, k⟩ =>
  ⟨F, g, γ, _, R, t, fun d γ1 v H1 g1 h1 le1 R1 dv => by
    split at h1
    · rename_i z
      cases dv
      refine ⟨rfl, ?_⟩
      exact ev_sound As R1 h1 (Q := fun vs H' => r (.str z) vs H' Q) fun os γ' g' vs H' l le R' tm => by
        obtain ⟨ds, hf, pv⟩ := late_sound R' tm l
        exact od g' H' (.str z :: vs) (.str z :: ds) _ Q R'.sub (.cons (.dat (.str z)) pv) hf fun y w g2 H2 hz G dv => k y γ' w H2 g2 hz ((le1.tr le).tr G.le) (R'.grow G) dv
    · exact h1.elim⟩
theorem od_join : OpD K W (rcv fun x xs H Q => ∃ a p, ∃ ys : List Str, x = .str a ∧ xs = [.ref p] ∧ (SqL K H p (ys.map V.str) ∨ SqT K H p (ys.map V.str)) ∧ (ys.map (·.length)).sum + ys.length * a.length ≤ 16777216 ∧ Q (.str (Txt.join a ys)) H) fJoin := by
  intro g H vs ds k Q s p e q
  unfold fJoin at e
  split at e
  · obtain ⟨ys, hy, e⟩ := e
    cases p with
    | cons p1 p =>
      cases p with
      | cons p2 p =>
        cases p
        cases p1.str
        obtain ⟨a, xs, rfl, ha, r⟩ := p2.lst s
        cases dvs_str r hy
        exact ⟨_, a, ys, rfl, rfl, .inl (SqL.of ha), e.1, q _ _ _ _ e.2 (.refl s) (.str _)⟩
  · exact e.elim
/-- s.index(t): it stands there -/
def fIndex : FD Ω
  | [.str a, .str b], k => ∃ (i : Nat) (rest : List Nat), Builtin.Str.occurrences a b 0 a.length 1 = i :: rest ∧ k (.int (i : Int))
  | _, _ => False
theorem od_index : OpD K W (rcv fun x xs H Q => ∃ a b i rest, x = .str a ∧ xs = [.str b] ∧ Builtin.Str.occurrences a b 0 a.length 1 = i :: rest ∧ Q (.int (i : Nat)) H) fIndex := by
  intro g H vs ds k Q s p e q
  unfold fIndex at e
  split at e
  · obtain ⟨i, rest, ho, e⟩ := e
    cases p with | cons p1 p => cases p with | cons p2 p => cases p; cases p1.str; cases p2.str; exact ⟨_, _, i, rest, rfl, rfl, ho, q _ _ _ _ e (.refl s) (.int _)⟩
  · exact e.elim
/-! ### comprehensions, as written -/
theorem PTsc {X : Cx} {e : List Expr} {t t' : TT} (h : PTs X e t) (k : ∀ σ H Q, t' σ H Q → t σ H Q) : PTs X e t' := ⟨fun pins s σ H Q I q => h.run pins s σ H Q I (k σ H Q q)⟩
def dYes : DT Ω := fun γ q => q true γ
theorem pts0 {X : Cx} : PTs X [] (upT K W dYes) := PTsc pts_nil fun σ H Q ⟨F, g, γ, q, R, t, k⟩ => k true γ H g t (.refl g) R
theorem pts1 {X : Cx} {c : Expr} {t : DT Ω} (h : PT X c (upT K W t)) : PTs X [c] (upT K W t) := pts_one h
section
variable {X : Cx} {elt tg iter : Expr} {ifs : List Expr} {scope : Scope} {own : List (Str × Nat)} {pos spos py : Pos} {TI : DI Ω} {G : DG Ω} {t : DT Ω} {T : DE Ω} {ix : List Nat} {i : Nat} {y : Str}
theorem pf_lc (hc : X.calm = true) (hN : X.N.Nodup) (hi : PI X tg iter (upI K W TI)) (ok : BlkOk X.N X.env.scope scope own)
    (hg : ∀ (s : Shared) (H : Hp) (C : Addr) (cl : List (Str × Addr)) (fp : List Addr), PG (X.blk s H scope (compEnvC scope cl C X.env) fp) tg (upG K W ix G)) (ht : ∀ (s : Shared) (H : Hp) (C : Addr) (cl : List (Str × Addr)) (fp : List Addr), PTs (X.blk s H scope (compEnvC scope cl C X.env) fp) ifs (upT K W t))
    (he : ∀ (s : Shared) (H : Hp) (C : Addr) (cl : List (Str × Addr)) (fp : List Addr), PE (X.blk s H scope (compEnvC scope cl C X.env) fp) elt (up K W T)) (hin : ∀ i ∈ ix, i ∈ own.map (·.2) := by decide) (hs : ∀ x, foldedSetIterable iter X.env x = pure x := by intro _; rfl) :
    PE X (.ListComp elt [⟨tg, iter, ifs, 0⟩] scope pos) (upF K W (dComp (own.map (·.2)) TI G t T)) := PEc (pe_lc hc hN hi ok hg ht he hs) (lc_up hin)
theorem ds_setLc (hc : X.calm = true) (hN : X.N.Nodup) (hy : X.N[i]? = some y) (hyl : X.env.scope.names.lookup y = some .local)
    (hsw : swapsWith (.ListComp elt [⟨tg, iter, ifs, 0⟩] scope pos) (some (.Name y py)) spos.line X.env = pure true) (hi : PI X tg iter (upI K W TI)) (ok : BlkOk X.N X.env.scope scope own)
    (hg : ∀ (s : Shared) (H : Hp) (C : Addr) (cl : List (Str × Addr)) (fp : List Addr), PG (X.blk s H scope (compEnvC scope cl C X.env) fp) tg (upG K W ix G)) (ht : ∀ (s : Shared) (H : Hp) (C : Addr) (cl : List (Str × Addr)) (fp : List Addr), PTs (X.blk s H scope (compEnvC scope cl C X.env) fp) ifs (upT K W t))
    (he : ∀ (s : Shared) (H : Hp) (C : Addr) (cl : List (Str × Addr)) (fp : List Addr), PE (X.blk s H scope (compEnvC scope cl C X.env) fp) elt (up K W T)) (hin : ∀ i ∈ ix, i ∈ own.map (·.2) := by decide) (hs : ∀ x, foldedSetIterable iter X.env x = pure x := by intro _; rfl) :
    PS X (.Assign [.Name y py] (.ListComp elt [⟨tg, iter, ifs, 0⟩] scope pos) spos) (tAsg (upF K W (dComp (own.map (·.2)) TI G t T)) (gName i)) := PSc (ps_setLc hc hN hy hyl hsw hi ok hg ht he hs) fun D σ H h => lc_up hin σ H _ h
end
/-- upF as up, in a store -/
theorem asg_up {T : DE Ω} {g : TG} {D : Ends} {σ : L2.St} {H : Hp} (h : tAsg (up K W T) g D σ H) : tAsg (upF K W T) g D σ H := by
  obtain ⟨F, g0, γ, q, R, t, k⟩ := h
  exact ⟨F, g0, γ, q, R, t, fun zs γ' ws L H1 g1 hq le R1 n r => by
    have G2 := Grow.dat (p := L) (o := .lst ws) R1.sub n
    exact k _ γ' _ _ _ hq (le.tr G2.le) (R1.grow G2) (.lst gup_same (r.more G2.le))⟩
theorem ps_fd {X : Cx} {st : Stmt} {T : DE Ω} {g : TG} (h : PS X st (tAsg (upF K W T) g)) : PS X st (tAsg (up K W T) g) := PSc h fun D σ H q => asg_up q
end
end DL
set_option Elab.async false
set_option linter.all false
set_option maxRecDepth 100000
set_option maxHeartbeats 16000000
namespace U1
open PySem PySem.Spec PyProof.Rows L2 Nv SX DL
abbrev D0 := Dat Empty
def W0 : Obs Empty := ⟨fun _ _ _ => False, fun _ h => h⟩
def pD (p : Pt) : D0 := .tup [.int p.1, .int p.2]
theorem fn_weak {P : Program} {w : World} {K : PySem.W.Frag} {mg : Str → Option Value} {base : Heap} {CX : CXT} {k : Nat} {f : Addr} {fd : FuncData} {ps : List Str} {sp sp' : Sp} (F : FnOk P w K mg base CX k f fd ps sp) (h : ∀ vs H Q E, sp' vs H Q E → sp vs H Q E) : FnOk P w K mg base CX k f fd ps sp' :=
  ⟨fun vs H Q E z => F.len vs H Q E (h _ _ _ _ z), fun A outer s H args us vs Q E a b c d e => F.run A outer s H args us vs Q E a b c d (h _ _ _ _ e)⟩
theorem take_weak : ∀ vs H Q E, spTk vs H Q E → spTake vs H Q E := fun vs H Q E ⟨p, m, many, e, b, h1, h2, h3, q⟩ => ⟨p, m, many, e, b, by omega, h2, h3, fun r H' r0 r1 bx bu => q r H' r0 r1 bx bu⟩
structure Bi (mg : Str → Option Value) : Prop where
  range : mg "range" = none
  tuple : mg "tuple" = none
  len : mg "len" = none
  str : mg "str" = none
  abs : mg "abs" = none
  list : mg "list" = none
def fStep : FD Empty
  | [.tup [.int x, .int y], .str s], k => ∃ c, s = S [c] ∧ dirc c = true ∧ k (pD (nxt (x, y) c))
  | _, _ => False
section
variable {P : Program} {w : World} {K : PySem.W.Frag} {mg : Str → Option Value} {base : Heap}
theorem scSD : FnScope ["_law_point", "_law_sign", "_law_x", "_law_y"] ["_law_point", "_law_sign"] (defScope (top 22)) := ⟨rfl, rfl, rfl, by decide +kernel, rfl, by decide +kernel, by decide +kernel⟩
theorem ok_stepD {f : Addr} {fd : FuncData} (F : Fun K "_law_step" "_law_step" (top 22) f fd) : FnOk P w K mg base CX0 1 f fd ["_law_point", "_law_sign"] (spP K W0 fStep) := by
  refine fnP F scSD (fun ds q h => ?_) fun cdv A outer s H E hr => ⟨_, (sdc (ds_asg (ps_asg (pd_name (pv 0)) (gd_tup (n := 2) (pg_tup rfl (gsd1 (gd_name (pg_name (i := 2) scSD.nd rfl (Or.inl rfl))) (gsd1 (gd_name (pg_name (i := 3) scSD.nd rfl (Or.inl rfl))) gsd0))) (gsLenC gN_mono (gsLenC gN_mono gsLen0)))))
    (sd1 (ds_ret (pd_ix ix_A od_ix (po_ex (pf_pe (pf_lst (pk1 (pd_tup (pk1 (pd_bin op_addA od_add (po_name (pv 2)) (po_ex pd_int)) (pk1 (pd_name (pv 3)) pk0))) (pk1 (pd_tup (pk1 (pd_name (pv 2)) (pk1 (pd_bin op_addA od_add (po_name (pv 3)) (po_ex pd_int)) pk0))) (pk1 (pd_tup (pk1 (pd_bin op_sub od_I20 (po_name (pv 2)) (po_ex pd_int)) (pk1 (pd_name (pv 3)) pk0))) (pk1 (pd_tup (pk1 (pd_name (pv 2)) (pk1 (pd_bin op_sub od_I20 (po_name (pv 3)) (po_ex pd_int)) pk0))) pk0))))))) (po_ex (pd_bmS (pe_bm PySem.F.plainAttrs_str PySem.F.slot_str_index PySem.F.type_str_index mt_sindex pd_str (pa1 (po_name (pv 1)) pa0)) od_index)))))), ?_⟩
  · unfold fStep at h
    split at h
    · rfl
    · exact h.elim
  · intro ds q h
    unfold fStep at h
    split at h
    · rename_i x y s
      obtain ⟨c, rfl, hc, h⟩ := h
      have l2 : 2 ≤ sizeLine := by decide
      have l4 : 4 ≤ sizeLine := by decide
      have e0 : x + 0 = x := Int.add_zero x
      have e1 : y + 0 = y := Int.add_zero y
      have ed : ∀ (a b c d : Int), a = c → b = d → q (.tup [.int a, .int b]) → q (.tup [.int c, .int d]) := fun a b c d e1 e2 h => by rw [← e1, ← e2]; exact h
      rcases dir_cs hc with rfl | rfl | rfl | rfl
      · exact ⟨l2, l2, l2, l2, l4, 0, [], by decide +kernel, _, rfl, ed _ _ _ _ (by show x + 1 = x + 1; rfl) (by show y + 0 = y; omega) h⟩
      · exact ⟨l2, l2, l2, l2, l4, 1, [], by decide +kernel, _, rfl, ed _ _ _ _ (by show x + 0 = x; omega) (by show y + 1 = y + 1; rfl) h⟩
      · exact ⟨l2, l2, l2, l2, l4, 2, [], by decide +kernel, _, rfl, ed _ _ _ _ (by show x + -1 = x - 1; omega) (by show y + 0 = y; omega) h⟩
      · exact ⟨l2, l2, l2, l2, l4, 3, [], by decide +kernel, _, rfl, ed _ _ _ _ (by show x + 0 = x; omega) (by show y + -1 = y - 1; omega) h⟩
    · exact h.elim
end
end U1
set_option Elab.async false
set_option linter.all false
set_option maxRecDepth 100000
set_option maxHeartbeats 4000000
namespace DL
open PySem PySem.Spec PyProof.Rows L2 Nv
section
variable {Ω : Type}
/-- a comprehension whose turns leave the state as it is -/
theorem dl_fm {ds : List (Dat Ω)} {γ1 γ0 : Gam Ω} {vs : List Nat} {G : DG Ω} {t : DT Ω} {T : DE Ω} {q : Dat Ω → Gam Ω → Prop} (f : Dat Ω → Option (Dat Ω)) (h0 : wipeG γ1 vs = γ0) (hl : ds.length ≤ sizeLine)
    (turn : ∀ (i : Nat) (d : Dat Ω), ds[i]? = some d → ∀ (acc : List (Dat Ω)) (R : List (Dat Ω) → Gam Ω → Prop), (∀ y, f d = some y → acc.length < sizeLine ∧ R (acc ++ [y]) γ0) → (f d = none → R acc γ0) →
      G d γ0 fun γ2 => t γ2 fun b γ3 => if b = true then T γ3 fun y γ4 => acc.length < sizeLine ∧ R (acc ++ [y]) (wipeG γ4 vs) else R acc (wipeG γ3 vs)) (hq : q (.lst (ds.filterMap f)) γ0) :
    compD vs G t T q ds γ1 := by
  have step : ∀ (i : Nat) (d : Dat Ω), ds[i]? = some d → (ds.take (i + 1)).filterMap f = (ds.take i).filterMap f ++ (match f d with | some y => [y] | none => []) := fun i d h => by
    rw [List.take_add_one, h, List.filterMap_append]
    congr 1
    simp only [Option.toList_some, List.filterMap_cons, List.filterMap_nil]
    cases f d <;> rfl
  refine ⟨⟨fun i acc γ => γ = γ0 ∧ acc = (ds.take i).filterMap f, ⟨h0, rfl⟩, fun i d acc γ hd ⟨e1, e2⟩ => ?_, fun acc γ ⟨e1, e2⟩ => ?_⟩⟩
  · subst e1
    have hi : i < ds.length := (List.getElem?_eq_some_iff.mp hd).1
    have la : acc.length < sizeLine := by
      have h1 : acc.length ≤ (ds.take i).length := by rw [e2]; exact List.length_filterMap_le _ _
      rw [List.length_take] at h1
      omega
    refine turn i d hd acc (fun acc' γ' => γ' = γ ∧ acc' = (ds.take (i + 1)).filterMap f) (fun y hy => ⟨la, rfl, ?_⟩) fun hn => ⟨rfl, ?_⟩
    · rw [step i d hd, hy, e2]
    · rw [step i d hd, hn, e2, List.append_nil]
  · subst e1 e2
    rw [List.take_length]
    exact hq
/-- .. that keeps all -/
theorem dl_map {ds : List (Dat Ω)} {γ1 γ0 : Gam Ω} {vs : List Nat} {G : DG Ω} {T : DE Ω} {q : Dat Ω → Gam Ω → Prop} (f : Dat Ω → Dat Ω) (h0 : wipeG γ1 vs = γ0) (hl : ds.length ≤ sizeLine)
    (turn : ∀ (i : Nat) (d : Dat Ω), ds[i]? = some d → ∀ (R : Dat Ω → Gam Ω → Prop), R (f d) γ0 → G d γ0 fun γ2 => T γ2 fun y γ4 => R y (wipeG γ4 vs)) (mono : ∀ (d : Dat Ω) γ (P Q : Gam Ω → Prop), (∀ γ, P γ → Q γ) → G d γ P → G d γ Q := by intro _ _ _ _ h x; exact h _ x) (hq : q (.lst (ds.map f)) γ0) :
    compD vs G dYes T q ds γ1 := by
  refine dl_fm (fun d => some (f d)) h0 hl (fun i d hd acc R k _ => ?_) (by
    have : ds.filterMap (fun d => some (f d)) = ds.map f := by rw [List.filterMap_eq_map']
    rw [this]
    exact hq)
  refine mono d γ0 _ _ (fun γ h => ?_) (turn i d hd (fun y γ => acc.length < sizeLine ∧ R (acc ++ [y]) γ) (k _ rfl))
  exact h
theorem pd_dnew {K : PySem.W.Frag} {W : Obs Ω} {X : Cx} {pos : Pos} : PE X (.Dict [] [] pos) (up K W (tC' (.dK [] []))) := PEc pe_dnewK fun σ H Q ⟨F, g, γ, q, R, t, k⟩ => fun d n => by
  have G := Grow.dat (p := d) (o := .dK []) R.sub n
  exact k _ γ _ _ _ t G.le (R.grow G) (.dK (xs := []) gup_same rfl .nil)
end
end DL
set_option Elab.async false
set_option linter.all false
set_option maxRecDepth 100000
set_option maxHeartbeats 16000000
namespace U1
open PySem PySem.Spec PyProof.Rows L2 Nv SX DL
def rots : List (List Nat) := [[114, 117, 108, 100], [117, 108, 100, 114], [108, 100, 114, 117], [100, 114, 117, 108]]
theorem rot1 {k : Int} (h : 0 ≤ k) : ∃ w ∈ rots, cutS ("ruld" : Str) (some (k % 4)) none ++ cutS ("ruld" : Str) none (some (k % 4)) = S w ∧ (cutS ("ruld" : Str) (some (k % 4)) none).length + (cutS ("ruld" : Str) none (some (k % 4))).length ≤ sizeLine := by
  have h4 : k % 4 = 0 ∨ k % 4 = 1 ∨ k % 4 = 2 ∨ k % 4 = 3 := by omega
  rcases h4 with e | e | e | e <;> rw [e]
  · exact ⟨[114, 117, 108, 100], by decide, by decide +kernel, by decide +kernel⟩
  · exact ⟨[117, 108, 100, 114], by decide, by decide +kernel, by decide +kernel⟩
  · exact ⟨[108, 100, 114, 117], by decide, by decide +kernel, by decide +kernel⟩
  · exact ⟨[100, 114, 117, 108], by decide, by decide +kernel, by decide +kernel⟩
theorem rot2 {w : List Nat} (hw : w ∈ rots) {a : Int} (h0 : 0 ≤ a) (h1 : a < 4) : ∃ w' ∈ rots, cutS (S w) (some a) none ++ cutS (S w) none (some a) = S w' ∧ (cutS (S w) (some a) none).length + (cutS (S w) none (some a)).length ≤ sizeLine := by
  have h4 : a = 0 ∨ a = 1 ∨ a = 2 ∨ a = 3 := by omega
  simp only [rots, List.mem_cons, List.not_mem_nil, or_false] at hw
  rcases hw with rfl | rfl | rfl | rfl <;> rcases h4 with rfl | rfl | rfl | rfl
  all_goals first
    | exact ⟨[114, 117, 108, 100], by decide, by decide +kernel, by decide +kernel⟩
    | exact ⟨[117, 108, 100, 114], by decide, by decide +kernel, by decide +kernel⟩
    | exact ⟨[108, 100, 114, 117], by decide, by decide +kernel, by decide +kernel⟩
    | exact ⟨[100, 114, 117, 108], by decide, by decide +kernel, by decide +kernel⟩
theorem rot_dirs {w : List Nat} (hw : w ∈ rots) : w.length = 4 ∧ w.all dirc = true ∧ 114 ∈ w ∧ 108 ∈ w := by
  simp only [rots, List.mem_cons, List.not_mem_nil, or_false] at hw
  rcases hw with rfl | rfl | rfl | rfl <;> exact ⟨rfl, by decide, by decide, by decide⟩
/-- the first sign that stays on the paper -/
theorem first_on {p : Pt} (hp : onP p = true) {w : List Nat} (hw : w ∈ rots) : ∃ c r, (w.map (nxt p)).filter onP = nxt p c :: r ∧ dirc c = true ∧ onP (nxt p c) = true := by
  obtain ⟨hl, hd, h1, h2⟩ := rot_dirs hw
  cases e : (w.map (nxt p)).filter onP with
  | nil =>
    have k1 : onP (nxt p 114) = false := by
      by_cases z : onP (nxt p 114) = true
      · have : nxt p 114 ∈ (w.map (nxt p)).filter onP := List.mem_filter.mpr ⟨List.mem_map_of_mem h1, z⟩
        rw [e] at this
        cases this
      · simpa using z
    have k2 : onP (nxt p 108) = false := by
      by_cases z : onP (nxt p 108) = true
      · have : nxt p 108 ∈ (w.map (nxt p)).filter onP := List.mem_filter.mpr ⟨List.mem_map_of_mem h2, z⟩
        rw [e] at this
        cases this
      · simpa using z
    have hp' : ((decide (0 ≤ p.1) && decide (p.1 ≤ 30)) && (decide (0 ≤ p.2) && decide (p.2 ≤ 30))) = true := hp
    have k1' : ((decide (0 ≤ p.1 + 1) && decide (p.1 + 1 ≤ 30)) && (decide (0 ≤ p.2 + 0) && decide (p.2 + 0 ≤ 30))) = false := k1
    have k2' : ((decide (0 ≤ p.1 + -1) && decide (p.1 + -1 ≤ 30)) && (decide (0 ≤ p.2 + 0) && decide (p.2 + 0 ≤ 30))) = false := k2
    simp only [Bool.and_eq_true, decide_eq_true_eq, Bool.and_eq_false_iff, decide_eq_false_iff_not] at hp' k1' k2'
    omega
  | cons x r =>
    have hx : x ∈ (w.map (nxt p)).filter onP := by rw [e]; exact List.mem_cons_self
    obtain ⟨hm, ho⟩ := List.mem_filter.mp hx
    obtain ⟨c, hc, rfl⟩ := List.mem_map.mp hm
    exact ⟨c, r, rfl, List.all_eq_true.mp hd c hc, ho⟩
theorem path_app : ∀ (p : Pt) (l r : List Nat), path p (l ++ r) = path p l ++ path (endp p l) r
  | p, [], r => rfl
  | p, c :: l, r => by
    show nxt p c :: path (nxt p c) (l ++ r) = _
    rw [path_app (nxt p c) l r]
    rfl
theorem path_last : ∀ (p : Pt) (l : List Nat), ∃ m, p :: path p l = m ++ [endp p l]
  | p, [] => ⟨[], rfl⟩
  | p, c :: r => by
    obtain ⟨m, e⟩ := path_last (nxt p c) r
    exact ⟨p :: m, by show p :: (nxt p c :: path (nxt p c) r) = _; rw [e]; rfl⟩
theorem at0 {α : Type} (x : α) (r : List α) : atI (x :: r) 0 = some x := atI_nat (j := 0) rfl
theorem signs_at {w : List Nat} {j : Nat} {d : D0} (h : (signsD (S w))[j]? = some d) : ∃ c, w[j]? = some c ∧ d = .str (S [c]) := by
  unfold signsD at h
  rw [List.getElem?_map] at h
  cases e : (S w).cps.toList[j]? with
  | none => rw [e] at h; cases h
  | some c =>
    rw [e] at h
    cases h
    exact ⟨c, by simpa using e, rfl⟩
theorem walk_last (p : Pt) (cs : List Nat) : atI ((p :: path p cs).map pD) (-1) = some (pD (endp p cs)) := by
  obtain ⟨mm, em⟩ := path_last p cs
  rw [em, List.map_append]
  exact L2.atI_last _ _
theorem map_signs (e : Pt) (w : List Nat) : (signsD (Ω := Empty) (S w)).map (fun d => match d with | .str s => pD (nxt e (s.cps.toList.headD 0)) | _ => .non) = (w.map (nxt e)).map pD := by
  unfold signsD
  rw [List.map_map, List.map_map]
  have : (S w).cps.toList = w := by simp
  rw [this]
  rfl
theorem map_at {l : List Pt} {j : Nat} {d : D0} (h : (l.map pD)[j]? = some d) : ∃ z, l[j]? = some z ∧ d = pD z := by
  rw [List.getElem?_map] at h
  cases e : l[j]? with
  | none => rw [e] at h; cases h
  | some c =>
    rw [e] at h
    cases h
    exact ⟨c, rfl, rfl⟩
def onD : D0 → Option D0
  | .tup [.int x, .int y] => if onP (x, y) = true then some (.tup [.int x, .int y]) else none
  | _ => none
theorem onD_yes {z : Pt} (h1 : 0 ≤ z.1) (h2 : z.1 < 31) (h3 : 0 ≤ z.2) (h4 : z.2 < 31) : onD (pD z) = some (pD z) := by
  show (if onP z = true then some (pD z) else none) = _
  rw [if_pos]
  show ((decide (0 ≤ z.1) && decide (z.1 ≤ 30)) && (decide (0 ≤ z.2) && decide (z.2 ≤ 30))) = true
  simp only [Bool.and_eq_true, decide_eq_true_eq]
  omega
theorem onD_no {z : Pt} (h : 0 ≤ z.1 → z.1 < 31 → 0 ≤ z.2 → z.2 < 31 → False) : onD (pD z) = none := by
  show (if onP z = true then some (pD z) else none) = _
  rw [if_neg]
  intro e
  have e : ((decide (0 ≤ z.1) && decide (z.1 ≤ 30)) && (decide (0 ≤ z.2) && decide (z.2 ≤ 30))) = true := e
  simp only [Bool.and_eq_true, decide_eq_true_eq] at e
  exact h (by omega) (by omega) (by omega) (by omega)
theorem filter_on : ∀ l : List Pt, (l.map pD).filterMap onD = (l.filter onP).map pD
  | [] => rfl
  | z :: r => by
    rw [List.map_cons, List.filterMap_cons, List.filter_cons, filter_on r]
    have e : onD (pD z) = if onP z = true then some (pD z) else none := rfl
    rw [e]
    by_cases h : onP z = true
    · rw [if_pos h, if_pos h]
      rfl
    · rw [if_neg h, if_neg h]
def fWalk : Nat → List D0 → (D0 → Nat → Prop) → Prop := fun m ds q => ∃ many, ds = [.int many] ∧ (2 ≤ many ∧ many ≤ 402 ∧ m ≤ 900000) ∧ ∀ p cs m', OkP p cs → (cs.length : Int) = many - 1 → m' ≤ m + 42 → q (.tup ((p :: path p cs).map pD)) m'
section
variable {P : Program} {w : World} {K : PySem.W.Frag} {mg : Str → Option Value} {base : Heap}
theorem scLW : FnScope ["_law_box_here", "_law_many", "_law_found", "_law_step_here", "_law_signs", "_law_at", "_law_some", "_law_sign", "_law_point"] ["_law_box_here", "_law_many"] (defScope (top 23)) := ⟨rfl, rfl, rfl, by decide +kernel, rfl, by decide +kernel, by decide +kernel⟩
theorem ok_walkD {f : Addr} {fd : FuncData} (F : Fun K "_law_walk" "_law_walk" (top 23) f fd) (B : Bi mg) {fT fS : Addr} {fdT fdS : FuncData} (GT : FnOk P w K mg base CX0 1 fT fdT ["_law_box_here", "_law_many"] spTk) (AT : At K mg "_law_take" fT fdT ["_law_box_here", "_law_many"])
    (GS : FnOk P w K mg base CX0 1 fS fdS ["_law_point", "_law_sign"] (spP K W0 fStep)) (AS : At K mg "_law_step" fS fdS ["_law_point", "_law_sign"]) : FnOk P w K mg base CX0 2 f fd ["_law_box_here", "_law_many"] (DL.spB K W0 fWalk) := by
  refine fnB F scLW (fun m ds q h => ?_) fun cdv A outer s H E hr => ?_
  · obtain ⟨_, rfl, _⟩ := h
    rfl
  have hu64 : (A.deeper (envOfC "_law_walk" (defScope (top 23)) s.heap.objs.size f cdv)).units + 64 < cLine := by
    have := hr.un
    omega
  have hu65 : (A.deeper (envOfC "_law_walk" (defScope (top 23)) s.heap.objs.size f cdv)).units + 65 < cLine := by
    have := hr.un
    omega
  refine ⟨_, (sdc (ds_setF (ps_set (i := 2) scLW.nd rfl (Or.inr rfl) (pf_lst (pk1 (pd_tup (pk1 (pd_take (pe_call GT (hr.mono (by decide)) rfl AT.g AT.k AT.b .nil pass0 (pa_cons (pv 0) (pk1 pd_int pk0)))) (pk1 (pd_take (pe_call GT (hr.mono (by decide)) rfl AT.g AT.k AT.b .nil pass0 (pa_cons (pv 0) (pk1 pd_int pk0)))) pk0))) pk0))))
    (sdc (ds_for (ps_for PassesOwn.never rfl (id_R1 (pi_range1 (by rfl) B.range (pk1 (pd_bin op_sub od_I20 (po_name (pv 1)) (po_ex pd_int)) pk0))) (gd_name (pg_name (i := 3) scLW.nd rfl (Or.inl rfl)))
    (sdc (ds_set (ps_set (i := 4) scLW.nd rfl (Or.inl rfl) (pd_bin op_addA od_add (po_ex (pd_slL (po_ex pd_str) (po_ex (pd_bin op_mod od_I2 (po_name (pv 3)) (po_ex pd_int))))) (po_ex (pd_slH (po_ex pd_str) (po_ex (pd_bin op_mod od_I2 (po_name (pv 3)) (po_ex pd_int))))))))
    (sdc (ds_if (pt_c op_lt od_B20 (po_name (pv 3)) (po_ex pd_int) (nomark _))
    (sdc (ds_set (ps_set (i := 5) scLW.nd rfl (Or.inl rfl) (pd_take (pe_call GT (hr.mono (by decide)) rfl AT.g AT.k AT.b .nil pass0 (pa_cons (pv 0) (pk1 pd_int pk0))))))
    (sd1 (ds_set (ps_set (i := 4) scLW.nd rfl (Or.inl rfl) (pd_bin op_addA od_add (po_ex (pd_slL (po_name (pv 4)) (po_name (pv 5)))) (po_ex (pd_slH (po_name (pv 4)) (po_name (pv 5)))))))))
    sd0)
    (sdc (ds_set (ps_fd (ds_setLc (i := 6) (own := [("_law_sign", 7)]) rfl scLW.nd rfl rfl (sw_true rfl rfl rfl (by decide +kernel)) (id_S (pd_name (pv 4))) (blkOk_by (own := [("_law_sign", 7)]) (N := ["_law_box_here", "_law_many", "_law_found", "_law_step_here", "_law_signs", "_law_at", "_law_some", "_law_sign", "_law_point"]) (sc := defScope (top 23)) (by decide +kernel)) (fun _ _ _ _ _ => (gd_name (pg_name (i := 7) scLW.nd rfl (Or.inl rfl)))) (fun _ _ _ _ _ => pts0) (fun _ _ _ _ _ => (pd_callP (pe_call GS (hr.mono (by decide)) rfl AS.g AS.k AS.b .nil pass0 (pk1 (pd_ix ix_A od_ix (po_name (pv 2)) (po_ex (pd_un un_neg od_neg (po_ex pd_int)))) (pk1 (pd_name (pv 7)) pk0))))))))
    (sdc (ds_set (ps_fd (ds_setLc (i := 6) (own := [("_law_point", 8)]) rfl scLW.nd rfl rfl (sw_true rfl rfl rfl (by decide +kernel)) (id_L (pd_name (pv 6))) (blkOk_by (own := [("_law_point", 8)]) (N := ["_law_box_here", "_law_many", "_law_found", "_law_step_here", "_law_signs", "_law_at", "_law_some", "_law_sign", "_law_point"]) (sc := defScope (top 23)) (by decide +kernel)) (fun _ _ _ _ _ => (gd_name (pg_name (i := 8) scLW.nd rfl (Or.inl rfl)))) (fun _ _ _ _ _ => (pts1 (PW.pt (pwd_and (pt_ch op_le op_lt pd_int (pd_ix ix_A od_ix (po_name (pv 8)) (po_ex pd_int)) pd_int) (pwd_and1 (pt_ch op_le op_lt pd_int (pd_ix ix_A od_ix (po_name (pv 8)) (po_ex pd_int)) pd_int)))))) (fun _ _ _ _ _ => (pd_name (pv 8))))))
    (sd1 (ds_app (ps_expr (pe_bm PySem.F.plainAttrs_list PySem.F.slot_list_append PySem.F.type_list_append mt_append (pv 2) (pk1 (pd_ix ix_A od_ix (po_name (pv 6)) (po_ex pd_int)) pk0)))))))))))
    (sd1 (ds_ret (pd_cb (pe_callTy call_tupOf (by rfl) B.tuple (by decide +kernel) (pa1 (po_name (pv 2)) pa0)) od_tup))))), ?_⟩
  rintro bp m ds q ⟨many, rfl, ⟨h2, h402, hm⟩, h⟩
  have l2 : 2 ≤ sizeLine := by decide
  have l1 : 1 ≤ sizeLine := by decide
  refine ⟨⟨by omega, by decide, by decide⟩, fun x x0 x1 => ⟨⟨by omega, by decide, by decide⟩, fun y y0 y1 => ⟨l2, l1, ⟨by omega, by omega⟩, ?_⟩⟩⟩
  refine ⟨⟨fun i γ => ∃ (p : Pt) (cs : List Nat) (m1 : Nat) (o3 o4 o5 o6 : Option (Sl Empty)), γ = [some (.box bp m1), some (.dat (.int many)), some (.own ((p :: path p cs).map pD)), o3, o4, o5, o6, none, none] ∧ cs.length = i ∧ cs.all dirc = true ∧ (∀ z ∈ p :: path p cs, onP z = true) ∧ m1 ≤ m + 2 + min i 40, ⟨(x, y), [], m + 1 + 1, none, none, none, none, rfl, rfl, rfl, fun z hz => ?_, by omega⟩, ?_, ?_⟩⟩
  · rw [List.mem_singleton.mp hz]
    show ((decide (0 ≤ x) && decide (x ≤ 30)) && (decide (0 ≤ y) && decide (y ≤ 30))) = true
    simp only [Bool.and_eq_true, decide_eq_true_eq]
    omega
  · rintro i d γ hd ⟨p, cs, m1, o3, o4, o5, o6, rfl, lcs, dcs, ons, hm1⟩
    obtain ⟨hi, rfl⟩ := rngD_at hd
    obtain ⟨w, hw, ew, lw⟩ := rot1 (k := 0 + (i : Int)) (by omega)
    have l4 : ("ruld" : Str).length ≤ sizeLine := by decide +kernel
    obtain ⟨mm, em⟩ := path_last p cs
    have hon : onP (endp p cs) = true := by
      refine ons _ ?_
      rw [em]
      exact List.mem_append_right _ (List.mem_singleton_self _)
    refine ⟨(by show (0 : Int) < 4; decide), l4, (by show (0 : Int) < 4; decide), l4, lw, ?_⟩
    rw [ew]
    refine ite2 (fun c => ?a) (fun c => ?b)
    case' a =>
      refine ⟨⟨by omega, by decide, by decide⟩, fun a a0 a1 => ?_⟩
      have ls : (S w).length ≤ sizeLine := by
        rw [show (S w).length = w.length from rfl, (rot_dirs hw).1]
        decide
      obtain ⟨w, hw, ew2, lw2⟩ := rot2 hw a0 a1
      refine ⟨ls, ls, lw2, ?_⟩
      rw [ew2]
      have hm2 : m1 + 1 ≤ m + 2 + min (i + 1) 40 := by
        have : ((0 : Int) + (i : Int)) < 40 := of_decide_eq_true c
        omega
    case' b =>
      have hm2 : m1 ≤ m + 2 + min (i + 1) 40 := by omega
    all_goals
      obtain ⟨c1, r1, ef, dc, oc⟩ := first_on hon hw
      refine dl_map (fun d => match d with | .str s => pD (nxt (endp p cs) (s.cps.toList.headD 0)) | _ => .non) rfl (by rw [show (signsD (Ω := Empty) (S w)).length = w.length by simp [signsD], (rot_dirs hw).1]; decide) (fun j d hj R hR => ?_) (by intro d γ P Q h x; exact h _ x) ?_
      · obtain ⟨cc, hcc, rfl⟩ := signs_at hj
        exact ⟨pD (endp p cs), walk_last p cs, cc, rfl, List.all_eq_true.mp (rot_dirs hw).2.1 cc (List.mem_of_getElem? hcc), hR⟩
      · rw [map_signs]
        refine dl_fm onD rfl (by rw [List.length_map, List.length_map, (rot_dirs hw).1]; decide) (fun j d hj acc R hk hn => ?_) ?_
        · obtain ⟨z, hz, rfl⟩ := map_at hj
          refine ⟨_, rfl, ite2 (fun a1 => ite2 (fun a2 => ⟨_, rfl, ite2 (fun a3 => ite2 (fun a4 => ?_) (fun a4 => ?_)) (fun a3 => iteF ?_)⟩) (fun a2 => iteF ?_)) (fun a1 => iteF (iteF ?_))⟩
          · exact hk _ (onD_yes (of_decide_eq_true a1) (of_decide_eq_true a2) (of_decide_eq_true a3) (of_decide_eq_true a4))
          all_goals exact hn (onD_no fun h1 h2 h3 h4 => by first | exact a1 (decide_eq_true h1) | exact a2 (decide_eq_true h2) | exact a3 (decide_eq_true h3) | exact a4 (decide_eq_true h4))
        · rw [filter_on, ef]
          have eo : (p :: path p cs).map pD ++ [pD (nxt (endp p cs) c1)] = (p :: path p (cs ++ [c1])).map pD := by
            rw [path_snoc, ← List.cons_append, List.map_append]
            rfl
          refine ⟨_, at0 _ _, ?_, p, cs ++ [c1], _, _, _, _, _, congrArg (fun z => [_, _, some (Sl.own z), _, _, _, _, _, _]) eo, ?_, ?_, ?_, hm2⟩
          · rw [List.length_map, List.length_cons, path_len]
            exact Nat.lt_of_le_of_lt (show cs.length + 1 ≤ 1000 by omega) (by decide)
          · rw [List.length_append, lcs]
            rfl
          · rw [List.all_append, dcs]
            simpa using dc
          · intro z hz
            rw [path_snoc, ← List.cons_append] at hz
            rcases List.mem_append.mp hz with hz | hz
            · exact ons z hz
            · rw [List.mem_singleton.mp hz]
              exact oc
  · rintro γ ⟨p, cs, m1, o3, o4, o5, o6, rfl, lcs, dcs, ons, hm1⟩
    rw [rngD_len] at lcs hm1
    exact ⟨m1, rfl, h p cs m1 ⟨ons, dcs, by omega⟩ (by omega) (by omega)⟩
end
end U1
set_option Elab.async false
set_option linter.all false
set_option maxRecDepth 100000
set_option maxHeartbeats 16000000
namespace U1
open PySem PySem.Spec PyProof.Rows L2 Nv SX DL

theorem eqv_pt (a b c d : Int) : PyData.eqv (.tuple [.int a, .int b]) (.tuple [.int c, .int d]) = (a == c && (b == d && true)) := rfl
theorem nxt_inj {e : Pt} {c d : Nat} (hc : dirc c = true) (hd : dirc d = true) : ((nxt e c).1 == (nxt e d).1 && ((nxt e c).2 == (nxt e d).2 && true)) = decide (c = d) := by
  have h : ∀ a b : Int, (nxt e c).1 = e.1 + sxc c := fun _ _ => rfl
  rw [show (nxt e c).1 = e.1 + sxc c from rfl, show (nxt e d).1 = e.1 + sxc d from rfl, show (nxt e c).2 = e.2 + syc c from rfl, show (nxt e d).2 = e.2 + syc d from rfl]
  rcases dir_cs hc with rfl | rfl | rfl | rfl <;> rcases dir_cs hd with rfl | rfl | rfl | rfl <;>
    simp [show sxc 114 = 1 from rfl, show syc 114 = 0 from rfl, show sxc 117 = 0 from rfl, show syc 117 = 1 from rfl, show sxc 108 = -1 from rfl, show syc 108 = 0 from rfl, show sxc 100 = 0 from rfl, show syc 100 = -1 from rfl] <;> omega
def oneD (c : Nat) : D0 → Option D0
  | .str s => if s = S [c] then some (.str (S [c])) else none
  | _ => none
theorem ruld_one {c : Nat} (h : dirc c = true) : (signsD (Ω := Empty) ("ruld" : Str)).filterMap (oneD c) = [.str (S [c])] := by
  rcases dir_cs h with rfl | rfl | rfl | rfl <;> rfl
def fText : FD Empty := fun ds k => ∃ p cs, ds = [.tup ((p :: path p cs).map pD)] ∧ OkP p cs ∧ k (.str (S (txtOf p cs)))
theorem walk_at (p : Pt) (cs : List Nat) {i : Nat} {z : Pt} (h : (p :: path p cs)[i]? = some z) : atI ((p :: path p cs).map pD) ((i : Nat) : Int) = some (pD z) := by
  refine atI_nat ?_
  rw [List.getElem?_map, h]
  rfl
theorem num_p {x : Int} (h : 0 ≤ x) : Str.ofString (toString x) = S (TL.numL x.toNat) := by
  have := num_S x.toNat
  rwa [show ((x.toNat : Nat) : Int) = x by omega] at this
theorem num_len {x : Int} (h0 : 0 ≤ x) (h1 : x ≤ 30) : (TL.numL x.toNat).length ≤ 2 := by
  have nl : ∀ n : Fin 31, (TL.numL n.val).length ≤ 2 := by decide +kernel
  exact nl ⟨x.toNat, by omega⟩
section
variable {P : Program} {w : World} {K : PySem.W.Frag} {mg : Str → Option Value} {base : Heap}
theorem scLX : FnScope ["_law_walk_here", "_law_signs", "_law_k", "_law_sign"] ["_law_walk_here"] (defScope (top 24)) := ⟨rfl, rfl, rfl, by decide +kernel, rfl, by decide +kernel, by decide +kernel⟩
theorem ok_textD {f : Addr} {fd : FuncData} (F : Fun K "_law_text" "_law_text" (top 24) f fd) (B : Bi mg) {fS : Addr} {fdS : FuncData} (GS : FnOk P w K mg base CX0 1 fS fdS ["_law_point", "_law_sign"] (DL.spP K W0 fStep)) (AS : At K mg "_law_step" fS fdS ["_law_point", "_law_sign"]) : FnOk P w K mg base CX0 2 f fd ["_law_walk_here"] (DL.spP K W0 fText) := by
  refine fnP F scLX (fun ds q h => ?_) fun cdv A outer s H E hr => ?_
  · obtain ⟨_, _, rfl, _⟩ := h
    rfl
  have hu64 : (A.deeper (envOfC "_law_text" (defScope (top 24)) s.heap.objs.size f cdv)).units + 64 < cLine := by
    have := hr.un
    omega
  have hu65 : (A.deeper (envOfC "_law_text" (defScope (top 24)) s.heap.objs.size f cdv)).units + 65 < cLine := by
    have := hr.un
    omega
  refine ⟨_, (sdc (ds_set (ps_set (i := 1) scLX.nd rfl (Or.inl rfl) pd_str))
    (sdc (ds_for (ps_for PassesOwn.never rfl (id_R1 (pi_range1 (by rfl) B.range (pk1 (pd_bin op_sub od_I20 (po_ex (pd_cb (pe_callB call_lenA (by rfl) B.len PySem.boot_len (pa1 (po_name (pv 0)) pa0)) od_len)) (po_ex pd_int)) pk0))) (gd_name (pg_name (i := 2) scLX.nd rfl (Or.inr rfl)))
    (sd1 (ds_set (ps_set (i := 1) scLX.nd rfl (Or.inl rfl) (pd_bin op_addA od_add (po_name (pv 1)) (po_ex (pd_ix ix_A od_ix (po_ex (pf_pe (pf_lc (own := [("_law_sign", 3)]) rfl scLX.nd (id_S pd_str) (blkOk_by (own := [("_law_sign", 3)]) (N := ["_law_walk_here", "_law_signs", "_law_k", "_law_sign"]) (sc := defScope (top 24)) (by decide +kernel)) (fun _ _ _ _ _ => (gd_name (pg_name (i := 3) scLX.nd rfl (Or.inl rfl)))) (fun _ _ _ _ _ => (pts1 (pt_c (op_eqA hu64) od_eq (po_ex (pd_callP (pe_call GS (hr.mono (by decide)) rfl AS.g AS.k AS.b .nil pass0 (pk1 (pd_ix ix_A od_ix (po_name (pv 0)) (po_name (pv 2))) (pk1 (pd_name (pv 3)) pk0))))) (po_ex (pd_ix ix_A od_ix (po_name (pv 0)) (po_ex (pd_bin op_addA od_add (po_name (pv 2)) (po_ex pd_int))))) (nomark _)))) (fun _ _ _ _ _ => (pd_name (pv 3)))))) (po_ex pd_int)))))))))
    (sd1 (ds_ret (pd_bin op_addA od_add (po_ex (pd_bin op_addA od_add (po_ex (pd_bin op_addA od_add (po_ex (pd_bin op_addA od_add (po_ex (pd_cb (pe_callTy call_str_i (by rfl) B.str (by decide +kernel) (pa1 (po_ex (pd_ix ix_A od_ix (po_ex (pd_ix ix_A od_ix (po_name (pv 0)) (po_ex pd_int))) (po_ex pd_int))) pa0)) od_str)) (po_ex pd_str))) (po_ex (pd_cb (pe_callTy call_str_i (by rfl) B.str (by decide +kernel) (pa1 (po_ex (pd_ix ix_A od_ix (po_ex (pd_ix ix_A od_ix (po_name (pv 0)) (po_ex pd_int))) (po_ex pd_int))) pa0)) od_str)))) (po_ex pd_str))) (po_name (pv 1))))))), ?_⟩
  rintro ds q ⟨p, cs, rfl, ok, h⟩
  have l2 : 2 ≤ sizeLine := by decide
  have hl := ok.l
  have lw : ((p :: path p cs).map pD).length = cs.length + 1 := by rw [List.length_map, List.length_cons, path_len]
  refine ⟨⟨by rw [lw]; omega, by rw [lw]; omega⟩, ⟨fun i γ => ∃ o2 : Option (Sl Empty), γ = [some (.dat (.tup ((p :: path p cs).map pD))), some (.dat (.str (S (cs.take i)))), o2, none], ⟨none, rfl⟩, ?_, ?_⟩⟩
  · rintro i d γ hd ⟨o2, rfl⟩
    obtain ⟨hi, rfl⟩ := rngD_at hd
    have hi : i < cs.length := by
      rw [lw] at hi
      omega
    have hc : cs[i]? = some cs[i] := List.getElem?_eq_getElem hi
    have dc : dirc cs[i] = true := List.all_eq_true.mp ok.d _ (List.getElem_mem _)
    obtain ⟨e1, e2⟩ := path_at p cs i _ hc
    refine dl_fm (oneD cs[i]) rfl (by decide +kernel) (fun j d hj acc R hk hn => ?_) ?_
    · obtain ⟨c, hcc, rfl⟩ := signs_at (w := [114, 117, 108, 100]) hj
      have dcc : dirc c = true := List.all_eq_true.mp (show [114, 117, 108, 100].all dirc = true by decide) c (List.mem_of_getElem? hcc)
      have a1 : atI ((p :: path p cs).map pD) (0 + (i : Int)) = some (pD (endp p (cs.take i))) := by rw [Int.zero_add]; exact walk_at p cs e1
      have a2 : atI ((p :: path p cs).map pD) (0 + (i : Int) + 1) = some (pD (nxt (endp p (cs.take i)) cs[i])) := by rw [Int.zero_add]; exact walk_at p cs (i := i + 1) e2
      refine ⟨_, a1, c, rfl, dcc, _, a2, _, _, rfl, rfl, rfl, rfl, ?_⟩
      show (if PyData.eqv (.tuple [.int (nxt (endp p (cs.take i)) c).1, .int (nxt (endp p (cs.take i)) c).2]) (.tuple [.int (nxt (endp p (cs.take i)) cs[i]).1, .int (nxt (endp p (cs.take i)) cs[i]).2]) = true then _ else _)
      rw [eqv_pt, nxt_inj dcc dc]
      refine ite2 (fun z => ?_) (fun z => ?_)
      · have z : c = cs[i] := of_decide_eq_true z
        exact hk _ (by show (if S [c] = S [cs[i]] then _ else _) = _; rw [z, if_pos rfl])
      · exact hn (by show (if S [c] = S [cs[i]] then _ else _) = _; rw [if_neg fun y => z (decide_eq_true (by have := S_inj y; simpa using this))])
    · rw [ruld_one dc]
      refine ⟨_, at0 _ _, ?_, some (.dat (.int (0 + (i : Int)))), ?_⟩
      · exact size1000 (show (cs.take i).length + 1 ≤ 1100 by rw [List.length_take]; omega)
      · rw [take_snoc hc, ← S_cat]
        rfl
  · rintro γ ⟨o2, rfl⟩
    rw [rngD_len, lw, List.take_of_length_le (by omega)]
    have on0 := ok.on p List.mem_cons_self
    have on0 : ((decide (0 ≤ p.1) && decide (p.1 ≤ 30)) && (decide (0 ≤ p.2) && decide (p.2 ≤ 30))) = true := on0
    simp only [Bool.and_eq_true, decide_eq_true_eq] at on0
    obtain ⟨⟨x1, x2⟩, y1, y2⟩ := on0
    have lX := num_len x1 x2
    have lY := num_len y1 y2
    have ec : ("," : Str) = S [44] := rfl
    have es : (" " : Str) = S [32] := rfl
    refine ⟨_, at0 _ _, _, at0 _ _, small_log' x1 x2, ?_, _, at0 _ _, _, atI_nat (j := 1) rfl, small_log' y1 y2, ?_, ?_, ?_, ?_⟩
    · rw [num_p x1]
      exact size1000 (show (TL.numL p.1.toNat).length + 1 ≤ 1100 by omega)
    · rw [num_p x1, num_p y1, ec, S_cat]
      exact size1000 (show (TL.numL p.1.toNat ++ [44]).length + (TL.numL p.2.toNat).length ≤ 1100 by rw [List.length_append, List.length_singleton]; omega)
    · rw [num_p x1, num_p y1, ec, S_cat, S_cat]
      exact size1000 (show ((TL.numL p.1.toNat ++ [44]) ++ TL.numL p.2.toNat).length + 1 ≤ 1100 by rw [List.length_append, List.length_append, List.length_singleton]; omega)
    · rw [num_p x1, num_p y1, ec, es, S_cat, S_cat, S_cat]
      exact size1000 (show (((TL.numL p.1.toNat ++ [44]) ++ TL.numL p.2.toNat) ++ [32]).length + cs.length ≤ 1100 by rw [List.length_append, List.length_append, List.length_append, List.length_singleton, List.length_singleton]; omega)
    · rw [num_p x1, num_p y1, ec, es, S_cat, S_cat, S_cat, S_cat]
      have et : (((TL.numL p.1.toNat ++ [44]) ++ TL.numL p.2.toNat) ++ [32]) ++ cs = txtOf p cs := by
        unfold txtOf
        simp only [List.append_assoc, List.cons_append, List.nil_append]
      rw [et]
      exact h
end
end U1
set_option Elab.async false
set_option linter.all false
set_option maxRecDepth 100000
set_option maxHeartbeats 16000000
/-! Bounds of what is shown of a datum. -/
namespace Nv
open PySem PySem.Spec PyProof.Rows L2
/-! ### small data are nice -/
mutual
def okD : PyData → Prop
  | .none => True
  | .bool _ => True
  | .int i => i.natAbs < 10 ^ 40
  | .str x => x.length ≤ 100 ∧ ∀ c ∈ x.cps.toList, c < 200
  | .list l => okDs l
  | .tuple l => okDs l
  | .dict l => l = []
def okDs : List PyData → Prop
  | [] => True
  | x :: r => okD x ∧ okDs r
end
mutual
def cap : PyData → Nat
  | .none => 4
  | .bool _ => 5
  | .int _ => 41
  | .str _ => 1002
  | .list l => caps l + 2
  | .tuple l => caps l + 3
  | .dict _ => 2
def caps : List PyData → Nat
  | [] => 0
  | x :: r => cap x + 2 + caps r
end
theorem piled_c (t : Str) (r : List Str) : piled (t :: r) = t.length + 2 + piled r := by simp [piled]
mutual
theorem shown_le : ∀ d : PyData, okD d → d.shown.length ≤ cap d
  | .none, _ => by show _ ≤ 4; decide
  | .bool b, _ => by cases b <;> (show _ ≤ 5; decide)
  | .int i, h => intText_le (by simpa [okD] using h)
  | .str x, h => by
    have h2 : x.length ≤ 100 ∧ ∀ c ∈ x.cps.toList, c < 200 := by simpa [okD] using h
    have := reprText_le (t := x) (by omega) h2.2
    show (reprText x).length ≤ 1002
    omega
  | .list l, h => by
    have h2 : okDs l := by simpa [okD] using h
    have a := listText_le (PyData.shownAll l)
    have b := showns_le l h2
    show (listText (PyData.shownAll l)).length ≤ caps l + 2
    omega
  | .tuple l, h => by
    have h2 : okDs l := by simpa [okD] using h
    have a := tupleText_le (PyData.shownAll l)
    have b := showns_le l h2
    show (tupleText (PyData.shownAll l)).length ≤ caps l + 3
    omega
  | .dict l, h => by
    have h2 : l = [] := by simpa [okD] using h
    subst h2
    show _ ≤ 2
    decide
theorem showns_le : ∀ l : List PyData, okDs l → piled (PyData.shownAll l) ≤ caps l
  | [], _ => by show piled [] ≤ 0; decide
  | x :: r, h => by
    have h2 : okD x ∧ okDs r := by simpa [okDs] using h
    have a := shown_le x h2.1
    have b := showns_le r h2.2
    show piled (x.shown :: PyData.shownAll r) ≤ cap x + 2 + caps r
    rw [piled_c]
    omega
end
mutual
theorem shows_of : ∀ d : PyData, okD d → d.showable = true
  | .none, _ => rfl
  | .bool b, _ => (nice_bl b).shows
  | .int i, h => (nice_int (by simpa [okD] using h)).shows
  | .str x, h => by
    have h2 : x.length ≤ 100 ∧ ∀ c ∈ x.cps.toList, c < 200 := by simpa [okD] using h
    exact (nice_str (by omega) h2.2).shows
  | .list l, h => show_all l (by simpa [okD] using h)
  | .tuple l, h => show_all l (by simpa [okD] using h)
  | .dict l, h => by
    have h2 : l = [] := by simpa [okD] using h
    subst h2
    rfl
theorem show_all : ∀ l : List PyData, okDs l → PyData.showableAll l = true
  | [], _ => rfl
  | x :: r, h => by
    have h2 : okD x ∧ okDs r := by simpa [okDs] using h
    show (x.showable && PyData.showableAll r) = true
    rw [shows_of x h2.1, show_all r h2.2]
    rfl
end
mutual
theorem lay_of : ∀ d : PyData, okD d → d.hasDict = false → d.canLay0 = true
  | .none, _, _ => by simp only [PyData.canLay0]
  | .bool _, _, _ => by simp only [PyData.canLay0]
  | .int _, _, _ => by simp only [PyData.canLay0]
  | .str x, h, _ => by
    have h2 : x.length ≤ 100 ∧ ∀ c ∈ x.cps.toList, c < 200 := by simpa [okD] using h
    have : PyData.strOk x = true := by
      show x.cps.all (· < 0x110000) = true
      rw [Array.all_eq_true']
      intro c hc
      have := h2.2 c (Array.mem_toList_iff.mpr hc)
      exact decide_eq_true (by omega)
    simpa only [PyData.canLay0] using this
  | .list l, h, n => by
    have := lays_of l (by simpa [okD] using h) (by simpa [PyData.hasDict] using n)
    simpa only [PyData.canLay0] using this
  | .tuple l, h, n => by
    have := lays_of l (by simpa [okD] using h) (by simpa [PyData.hasDict] using n)
    simpa only [PyData.canLay0] using this
  | .dict l, h, n => by simp [PyData.hasDict] at n
theorem lays_of : ∀ l : List PyData, okDs l → PyData.hasDictAll l = false → PyData.canLayAll0 l = true
  | [], _, _ => by simp only [PyData.canLayAll0]
  | x :: r, h, n => by
    have h2 : okD x ∧ okDs r := by simpa [okDs] using h
    have n2 : x.hasDict = false ∧ PyData.hasDictAll r = false := by simpa [PyData.hasDictAll] using n
    simp only [PyData.canLayAll0, lay_of x h2.1 n2.1, lays_of r h2.2 n2.2, Bool.and_self]
end
theorem nice_of {d : PyData} (o : okD d) (dp : d.depth ≤ 20) (cp : cap d ≤ 1000000) (n : d.hasDict = false) : Nice d := ⟨shows_of d o, by omega, Nat.le_trans (shown_le d o) (Nat.le_trans cp (by decide)), fun h => by rw [n] at h; cases h⟩
theorem okDs_app : ∀ {a b : List PyData}, okDs a → okDs b → okDs (a ++ b)
  | [], _, _, h => h
  | x :: r, b, h, k => by
    have h2 : okD x ∧ okDs r := by simpa [okDs] using h
    show okDs (x :: (r ++ b))
    have := okDs_app h2.2 k
    simpa [okDs] using And.intro h2.1 this
theorem caps_app : ∀ (a b : List PyData), caps (a ++ b) = caps a + caps b
  | [], b => by show caps b = 0 + caps b; omega
  | x :: r, b => by
    show cap x + 2 + caps (r ++ b) = cap x + 2 + caps r + caps b
    rw [caps_app r b]
    omega
theorem okDs_all : ∀ {l : List PyData}, (∀ x ∈ l, okD x) → okDs l
  | [], _ => trivial
  | x :: r, h => by
    have := okDs_all (l := r) fun y hy => h y (List.mem_cons_of_mem _ hy)
    simpa [okDs] using And.intro (h x List.mem_cons_self) this
theorem caps_all {n : Nat} : ∀ {l : List PyData}, (∀ x ∈ l, cap x ≤ n) → caps l ≤ (n + 2) * l.length
  | [], _ => Nat.zero_le _
  | x :: r, h => by
    have h1 := caps_all (l := r) fun y hy => h y (List.mem_cons_of_mem _ hy)
    have h2 := h x List.mem_cons_self
    show cap x + 2 + caps r ≤ _
    rw [List.length_cons, Nat.mul_add]
    omega
theorem depth_all {n : Nat} : ∀ {l : List PyData}, (∀ x ∈ l, x.depth ≤ n) → PyData.depthAll l ≤ n
  | [], _ => Nat.zero_le _
  | x :: r, h => by
    have h1 := depth_all (l := r) fun y hy => h y (List.mem_cons_of_mem _ hy)
    have h2 := h x List.mem_cons_self
    show max x.depth (PyData.depthAll r) ≤ n
    omega
theorem flat_all : ∀ {l : List PyData}, (∀ x ∈ l, x.hasDict = false) → PyData.hasDictAll l = false
  | [], _ => rfl
  | x :: r, h => by
    show (x.hasDict || PyData.hasDictAll r) = false
    rw [h x List.mem_cons_self, flat_all fun y hy => h y (List.mem_cons_of_mem _ hy)]
    rfl
end Nv
set_option Elab.async false
set_option linter.all false
set_option maxRecDepth 100000
set_option maxHeartbeats 4000000
namespace DL
open PySem PySem.Spec PyProof.Rows L2 Nv
/-! What an expression comes to, its continuation a letter: so that the kernel never looks into the rest of a program. -/
section
variable {Ω : Type} {T U V : DE Ω} {Ts : List (DE Ω)} {As : List (Opn Ω)} {f : FD Ω} {γ γ1 γ2 γ' : Gam Ω} {d e z : Dat Ω} {ds : List (Dat Ω)} {i j : Nat}
def Ev (T : DE Ω) (γ : Gam Ω) (d : Dat Ω) (γ' : Gam Ω) : Prop := ∀ q : Dat Ω → Gam Ω → Prop, q d γ' → T γ q
def EvK (Ts : List (DE Ω)) (γ : Gam Ω) (ds : List (Dat Ω)) (γ' : Gam Ω) : Prop := ∀ q : List (Dat Ω) → Gam Ω → Prop, q ds γ' → evK Ts γ q
def EvA (As : List (Opn Ω)) (γ : Gam Ω) (ds : List (Dat Ω)) : Prop := ∀ q : List (Dat Ω) → Gam Ω → Prop, q ds γ → evL As γ fun os γ' => late As os γ' fun ds => q ds γ'
def EvT (t : DT Ω) (γ : Gam Ω) (b : Bool) (γ' : Gam Ω) : Prop := ∀ q : Bool → Gam Ω → Prop, q b γ' → t γ q
def FEv (f : FD Ω) (ds : List (Dat Ω)) (z : Dat Ω) : Prop := ∀ k : Dat Ω → Prop, k z → f ds k
theorem ev_c : Ev (tC' d) γ d γ := fun q h => h
theorem ev_n (h : γ[i]? = some (some (.dat d))) : Ev (tN i) γ d γ := fun q k => by
  unfold tN
  rw [h]
  exact k
theorem ev_own {ds : List (Dat Ω)} (h : γ[i]? = some (some (.own ds))) (h2 : γ.set i (some (.dat (.lst ds))) = γ') : Ev (tN i) γ (.lst ds) γ' := fun q k => by
  unfold tN
  rw [h]
  simp only [h2]
  exact k
theorem evk0 : EvK ([] : List (DE Ω)) γ [] γ := fun q h => h
theorem evk1 (h : Ev T γ d γ1) (k : EvK Ts γ1 ds γ2) : EvK (T :: Ts) γ (d :: ds) γ2 := fun q r => h _ (k _ r)
theorem ev_ks (h : EvK Ts γ ds γ') (k : FEv f ds z) : Ev (tKs Ts f) γ z γ' := fun q r => h _ (k _ r)
theorem eva0 : EvA ([] : List (Opn Ω)) γ [] := fun q h => h
theorem evL_mono : ∀ (As : List (Opn Ω)) {γ : Gam Ω} {r r' : List (Option (Dat Ω)) → Gam Ω → Prop}, (∀ o ∈ As, ∀ T, o = .ex T → ∀ γ (q q' : Dat Ω → Gam Ω → Prop), (∀ d γ, q d γ → q' d γ) → T γ q → T γ q') → (∀ os γ, r os γ → r' os γ) → evL As γ r → evL As γ r'
  | [], γ, r, r', _, h, e => h _ _ e
  | .nm i :: As, γ, r, r', m, h, e => by
    unfold evL at e ⊢
    split at e
    · exact evL_mono As (fun o ho => m o (List.mem_cons_of_mem _ ho)) (fun os γ' q => h _ _ q) e
    · exact e.elim
  | .ex T :: As, γ, r, r', m, h, e => by
    unfold evL at e ⊢
    exact m _ List.mem_cons_self T rfl γ _ _ (fun d γ1 q => evL_mono As (fun o ho => m o (List.mem_cons_of_mem _ ho)) (fun os γ' q => h _ _ q) q) e
theorem eva_nm (h : sd γ[i]? = some d) (k : EvA As γ ds) : EvA (.nm i :: As) γ (d :: ds) := fun q r => by
  unfold evL
  have hs : ∃ s, γ[i]? = some (some s) := by
    cases e : γ[i]? with
    | none => rw [e] at h; cases h
    | some o =>
      cases o with
      | none => rw [e] at h; cases h
      | some s => exact ⟨s, rfl⟩
  obtain ⟨s, hs⟩ := hs
  rw [hs]
  show evL As γ fun os γ' => late (.nm i :: As) (none :: os) γ' fun ds => q ds γ'
  have := k (fun ds' γ' => ds' = ds ∧ γ' = γ) ⟨rfl, rfl⟩
  exact (k fun ds' γ' => (match sd γ'[i]? with | some d => q (d :: ds') γ' | none => False)) (by simp only [h]; exact r) |> fun z => by
    have e : (fun (os : List (Option (Dat Ω))) (γ' : Gam Ω) => late As os γ' fun ds' => (match sd γ'[i]? with | some d => q (d :: ds') γ' | none => False)) = fun os γ' => late (.nm i :: As) (none :: os) γ' fun ds => q ds γ' := by
      funext os γ'
      conv => rhs; unfold late
      cases hh : sd γ'[i]? with
      | some d => rfl
      | none =>
        simp only
        refine propext ⟨fun z => ?_, fun z => z.elim⟩
        have lf : ∀ (As : List (Opn Ω)) (os : List (Option (Dat Ω))) (γ : Gam Ω), (late As os γ fun _ => False) → False := by
          intro As
          induction As with
          | nil =>
            intro os γ h
            cases os with
            | nil => exact h
            | cons _ _ => exact h
          | cons o As ih =>
            intro os γ h
            cases os with
            | nil => cases o <;> exact h
            | cons p os =>
              cases o with
              | nm j =>
                unfold late at h
                split at h
                · exact ih _ _ h
                · exact h
              | ex T =>
                cases p with
                | none => exact h
                | some d =>
                  unfold late at h
                  exact ih _ _ h
        exact lf _ _ _ z
    rw [e] at z
    exact z
theorem eva_ex (h : Ev T γ d γ) (k : EvA As γ ds) : EvA (.ex T :: As) γ (d :: ds) := fun q r => by
  unfold evL
  refine h _ ?_
  have z := k (fun ds' γ' => q (d :: ds') γ') r
  exact z
theorem ev_ops (h : EvA As γ ds) (k : FEv f ds z) : Ev (tOps As f) γ z γ := fun q r => h (fun ds γ' => f ds fun z => q z γ') (k _ r)
theorem evt_b (h : Ev T γ (.bl true) γ') : EvT (tB' T) γ true γ' := fun q r => h _ r
theorem evt_v {b : Bool} (h : Ev T γ (.bl b) γ') : EvT (tB' T) γ b γ' := fun q r => h _ r
theorem evt_not {t : DT Ω} {b : Bool} (h : EvT t γ b γ') : EvT (dNot t) γ (!b) γ' := fun q r => h _ r
theorem evt_and {t u : DT Ω} {b c : Bool} (h : EvT t γ b γ1) (k : b = true → EvT u γ1 c γ') (k0 : b = false → c = false ∧ γ1 = γ') : EvT (dAnd t u) γ c γ' := fun q r => h _ (by
  cases b with
  | true => exact k rfl _ r
  | false =>
    obtain ⟨e1, e2⟩ := k0 rfl
    subst e1 e2
    exact r)
theorem evt_or {t u : DT Ω} {b c : Bool} (h : EvT t γ b γ1) (k : b = false → EvT u γ1 c γ') (k0 : b = true → c = true ∧ γ1 = γ') : EvT (dOr t u) γ c γ' := fun q r => h _ (by
  cases b with
  | false => exact k rfl _ r
  | true =>
    obtain ⟨e1, e2⟩ := k0 rfl
    subst e1 e2
    exact r)
theorem ev_ch {h h' : Int → Int → Bool} {i j k : Int} (a : Ev T γ (.int i) γ) (b : Ev U γ (.int j) γ) (c : Ev V γ (.int k) γ) : Ev (dChain h h' T U V) γ (.bl (h i j && h' j k)) γ := fun q r => a _ (b _ (by
  show if h i j = true then _ else _
  cases e : h i j with
  | true =>
    rw [if_pos rfl]
    rw [e, Bool.true_and] at r
    exact c _ r
  | false =>
    rw [if_neg (by decide)]
    rw [e, Bool.false_and] at r
    exact r))
theorem ev_ifT {t : DT Ω} (h : EvT t γ true γ1) (k : Ev T γ1 d γ') : Ev (dIf t T U) γ d γ' := fun q r => h _ (by rw [if_pos rfl]; exact k _ r)
theorem ev_ifF {t : DT Ω} (h : EvT t γ false γ1) (k : Ev U γ1 d γ') : Ev (dIf t T U) γ d γ' := fun q r => h _ (by rw [if_neg (by decide)]; exact k _ r)
/-! statements -/
variable {S S2 : DS Ω} {D : EndsD Ω}
def Es (S : DS Ω) (γ γ' : Gam Ω) : Prop := ∀ D : EndsD Ω, D.nx γ' → S D γ
theorem sq (h : Es S γ γ') (k : S2 D γ') : dSeq S S2 D γ := h _ k
theorem es_set (h : Ev T γ d γ1) (e : γ1.set i (some (.dat d)) = γ') : Es (dSet i T) γ γ' := fun D r => h _ (by rw [e]; exact r)
theorem es_setF (h : Ev T γ (.lst ds) γ1) (e : γ1.set i (some (.own ds)) = γ') : Es (dSetF i T) γ γ' := fun D r => h _ (by show D.nx (γ1.set i (some (.own ds))); rw [e]; exact r)
theorem es_app {es : List (Dat Ω)} (h0 : γ[i]? = some (some (.own es))) (h : Ev T γ d γ) (hl : es.length < sizeLine) (e : γ.set i (some (.own (es ++ [d]))) = γ') : Es (dApp i T) γ γ' := fun D r => by
  unfold dApp
  rw [h0]
  refine h _ ?_
  show match γ[i]? with | some (some (.own ds)) => ds.length < sizeLine ∧ D.nx (γ.set i (some (.own (ds ++ [d])))) | _ => False
  rw [h0]
  exact ⟨hl, by rw [e]; exact r⟩
theorem es_par (h : Ev T γ d γ1) (k : Ev U γ1 e γ2) (eq : (γ2.set i (some (.dat d))).set j (some (.dat e)) = γ') : Es (dPar i j T U) γ γ' := fun D r => h _ (k _ (by rw [eq]; exact r))
theorem es_asg {G : DG Ω} (h : Ev T γ d γ1) (k : ∀ q : Gam Ω → Prop, q γ' → G d γ1 q) : Es (dAsg T G) γ γ' := fun D r => h _ (k _ r)
theorem es_drop (h : Ev T γ d γ') : Es (dDrop T) γ γ' := fun D r => h _ r
theorem rd_ret (h : Ev T γ d γ') (k : D.rt d γ') : dRet T D γ := h _ k
theorem rd_if {t : DT Ω} {b : Bool} (h : EvT t γ b γ1) (k1 : b = true → S D γ1) (k2 : b = false → S2 D γ1) : dIfS t S S2 D γ := h _ (by
  cases b with
  | true => rw [if_pos rfl]; exact k1 rfl
  | false => rw [if_neg (by decide)]; exact k2 rfl)
/-- an if whose way through comes to the rest as well -/
theorem sq_if {t : DT Ω} {b : Bool} {S3 : DS Ω} (h : EvT t γ b γ1) (k1 : b = true → S { D with nx := S3 D } γ1) (k2 : b = false → S2 { D with nx := S3 D } γ1) : dSeq (dIfS t S S2) S3 D γ := rd_if h k1 k2
theorem sq_next (k : S2 D γ) : dNext { D with nx := S2 D } γ := k
/-- take, into a name -/
theorem sq_take {i k : Nat} {p : Addr} {m : Nat} {many : Int} (h : γ[i]? = some (some (.box p m))) (h1 : Ev T γ (.int many) γ) (c : m ≤ 1000000 ∧ 0 < many ∧ many ≤ 100000)
    (go : ∀ r, 0 ≤ r → r < many → S2 D ((γ.set i (some (.box p (m + 1)))).set k (some (.dat (.int r))))) : dSeq (dSet k (tTk i T)) S2 D γ := by
  show tTk i T γ fun d γ' => S2 D (γ'.set k (some (.dat d)))
  unfold tTk
  rw [h]
  refine h1 _ ?_
  show match (Dat.int many : Dat Ω), γ[i]? with | .int many, some (some (.box p m)) => _ | _, _ => False
  rw [h]
  exact ⟨c, fun r r0 r1 => go r r0 r1⟩
/-- take, anywhere -/
theorem ap_take {i : Nat} {p : Addr} {m : Nat} {many : Int} {q : Dat Ω → Gam Ω → Prop} (h : γ[i]? = some (some (.box p m))) (h1 : Ev T γ (.int many) γ) (c : m ≤ 1000000 ∧ 0 < many ∧ many ≤ 100000)
    (go : ∀ r, 0 ≤ r → r < many → q (.int r) (γ.set i (some (.box p (m + 1))))) : tTk i T γ q := by
  unfold tTk
  rw [h]
  refine h1 _ ?_
  show match (Dat.int many : Dat Ω), γ[i]? with | .int many, some (some (.box p m)) => _ | _, _ => False
  rw [h]
  exact ⟨c, fun r r0 r1 => go r r0 r1⟩
theorem ev_use {q : Dat Ω → Gam Ω → Prop} (h : Ev T γ d γ') (k : q d γ') : T γ q := h q k
theorem fe_use {q : Dat Ω → Prop} (h : FEv f ds z) (k : q z) : f ds q := h q k
theorem nd_ops2 {q : Dat Ω → Gam Ω → Prop} (h : T γ fun a γ1 => U γ1 fun b γ2 => f [a, b] fun z => q z γ2) : tOps [.ex T, .ex U] f γ q := h
theorem nd_ks1 {q : Dat Ω → Gam Ω → Prop} (h : T γ fun a γ1 => f [a] fun z => q z γ1) : tKs [T] f γ q := h
theorem nd_opsN {q : Dat Ω → Gam Ω → Prop} {s : Sl Ω} (h0 : γ[i]? = some (some s)) (mono : ∀ (p p' : Dat Ω → Gam Ω → Prop), (∀ d γ, p d γ → p' d γ) → T γ p → T γ p') (h : T γ fun a γ1 => ∃ d, sd γ1[i]? = some d ∧ f [d, a] fun z => q z γ1) : tOps [.nm i, .ex T] f γ q := by
  show evL [.nm i, .ex T] γ _
  unfold evL
  rw [h0]
  refine mono _ _ (fun a γ1 ⟨d, e, z⟩ => ?_) h
  show match sd γ1[i]? with | some d => _ | none => False
  rw [e]
  exact z
theorem nd_ks2 {q : Dat Ω → Gam Ω → Prop} (h : T γ fun a γ1 => U γ1 fun b γ2 => f [a, b] fun z => q z γ2) : tKs [T, U] f γ q := h
theorem sq_setN (h : T γ fun d γ' => S2 D (γ'.set i (some (.dat d)))) : dSeq (dSet i T) S2 D γ := h
theorem sq_ifN {t : DT Ω} {S3 : DS Ω} (h : t γ fun b γ1 => if b = true then S { D with nx := S3 D } γ1 else S2 { D with nx := S3 D } γ1) : dSeq (dIfS t S S2) S3 D γ := h
theorem nd_b {q : Bool → Gam Ω → Prop} (h : T γ fun d γ' => match d with | .bl b => q b γ' | _ => False) : tB' T γ q := h
theorem take_mono {n : Int} : ∀ (p p' : Dat Ω → Gam Ω → Prop), (∀ d γ, p d γ → p' d γ) → tTk i (tC' (.int n)) γ p → tTk i (tC' (.int n)) γ p' := fun p p' h e => by
  unfold tTk at e ⊢
  split at e
  · show match (Dat.int n : Dat Ω), γ[i]? with | .int many, some (some (.box p m)) => _ | _, _ => False
    have e : match (Dat.int n : Dat Ω), γ[i]? with | .int many, some (some (.box p m)) => _ | _, _ => False := e
    split at e
    · exact ⟨e.1, fun r r0 r1 => h _ _ (e.2 r r0 r1)⟩
    · exact e.elim
  · exact e.elim
/-! what operations come to -/
theorem fe_lst (h : ds.length ≤ sizeLine) : FEv fLst ds (.lst ds) := fun k r => ⟨h, r⟩
theorem fe_tup (h : ds.length ≤ sizeLine) : FEv fTup ds (.tup ds) := fun k r => ⟨h, r⟩
theorem fe_addI {a b : Int} : FEv (Ω := Ω) fAdd [.int a, .int b] (.int (a + b)) := fun k r => r
theorem fe_addS {a b : Str} (h : a.length + b.length ≤ sizeLine) : FEv (Ω := Ω) fAdd [.str a, .str b] (.str (a ++ b)) := fun k r => ⟨h, r⟩
theorem fe_addL {a b : List (Dat Ω)} (h : a.length + b.length ≤ sizeLine) : FEv fAdd [.lst a, .lst b] (.lst (a ++ b)) := fun k r => ⟨h, r⟩
theorem fe_addT {a b : List (Dat Ω)} (h : a.length + b.length ≤ sizeLine) : FEv fAdd [.tup a, .tup b] (.tup (a ++ b)) := fun k r => ⟨h, r⟩
theorem fe_I0 {h : Int → Int → Int} {a b : Int} : FEv (Ω := Ω) (fI20 h) [.int a, .int b] (.int (h a b)) := fun k r => r
theorem fe_I {C : Int → Int → Prop} {h : Int → Int → Int} {a b : Int} (c : C a b) : FEv (Ω := Ω) (fI2 C h) [.int a, .int b] (.int (h a b)) := fun k r => ⟨c, r⟩
theorem fe_B {h : Int → Int → Bool} {a b : Int} : FEv (Ω := Ω) (fB20 h) [.int a, .int b] (.bl (h a b)) := fun k r => r
theorem fe_neg {a : Int} : FEv (Ω := Ω) fNeg [.int a] (.int (-a)) := fun k r => r
theorem fe_abs {a : Int} : FEv (Ω := Ω) fAbs [.int a] (.int (if a < 0 then -a else a)) := fun k r => r
theorem fe_eqI {a b : Int} : FEv (Ω := Ω) fEq [.int a, .int b] (.bl (decide (a = b))) := fun k r => r
theorem fe_neI {a b : Int} : FEv (Ω := Ω) fNe [.int a, .int b] (.bl (!decide (a = b))) := fun k r => r
theorem fe_eqS {a b : Str} : FEv (Ω := Ω) fEq [.str a, .str b] (.bl (decide (a = b))) := fun k r => r
theorem fe_neS {a b : Str} : FEv (Ω := Ω) fNe [.str a, .str b] (.bl (!decide (a = b))) := fun k r => r
theorem fe_ixL {i : Int} (h : atI ds i = some d) : FEv fIx [.lst ds, .int i] d := fun k r => ⟨d, h, r⟩
theorem fe_ixT {i : Int} (h : atI ds i = some d) : FEv fIx [.tup ds, .int i] d := fun k r => ⟨d, h, r⟩
theorem fe_ixS {z : Str} {i : Int} {c : Nat} (l : z.length ≤ sizeLine) (h : atI z.cps.toList i = some c) : FEv (Ω := Ω) fIx [.str z, .int i] (.str ⟨#[c]⟩) := fun k r => ⟨l, c, h, r⟩
theorem fe_lenL : FEv fLen [.lst ds] (.int ds.length) := fun k r => r
theorem fe_lenT : FEv fLen [.tup ds] (.int ds.length) := fun k r => r
theorem fe_lenS {z : Str} (l : z.length ≤ sizeLine) : FEv (Ω := Ω) fLen [.str z] (.int z.length) := fun k r => ⟨l, r⟩
theorem fe_listT : FEv fListOf [.tup ds] (.lst ds) := fun k r => r
theorem fe_listL : FEv fListOf [.lst ds] (.lst ds) := fun k r => r
theorem fe_tupL : FEv fTupOf [.lst ds] (.tup ds) := fun k r => r
theorem fe_isN {n : Bool} : FEv (fIsN n) [d, .non] (.bl (if n then !isNon d else isNon d)) := fun k r => r
theorem fe_slLT {a : Int} : FEv fSlL [.tup ds, .int a] (.tup (DL.cutD ds (some a) none)) := fun k r => r
theorem fe_slHT {a : Int} : FEv fSlH [.tup ds, .int a] (.tup (DL.cutD ds none (some a))) := fun k r => r
theorem fe_slLL {a : Int} : FEv fSlL [.lst ds, .int a] (.lst (DL.cutD ds (some a) none)) := fun k r => r
theorem fe_slHL {a : Int} : FEv fSlH [.lst ds, .int a] (.lst (DL.cutD ds none (some a))) := fun k r => r
theorem fe_slLS {z : Str} {a : Int} (l : z.length ≤ sizeLine) : FEv (Ω := Ω) fSlL [.str z, .int a] (.str (cutS z (some a) none)) := fun k r => ⟨l, r⟩
theorem fe_slHS {z : Str} {a : Int} (l : z.length ≤ sizeLine) : FEv (Ω := Ω) fSlH [.str z, .int a] (.str (cutS z none (some a))) := fun k r => ⟨l, r⟩
theorem sz {n : Nat} (h : Nat.ble n 100000 = true := by rfl) : n ≤ sizeLine := Nat.le_trans (Nat.le_of_ble_eq_true h) (by decide)
end
end DL
set_option Elab.async false
set_option linter.all false
set_option maxRecDepth 100000
set_option maxHeartbeats 16000000
namespace U1
open PySem PySem.Spec PyProof.Rows L2 Nv SX DL
local macro_rules | `(tactic| walk_at "evs") => `(tactic| repeat (first
  | exact ev_c | exact ev_n rfl | exact evk0 | exact eva0 | apply evk1 | apply eva_nm rfl | apply eva_ex | apply ev_ks | apply ev_ops | apply ev_ch | apply evt_v | apply evt_not
  | exact fe_addI | exact fe_I0 | exact fe_B | exact fe_eqI | exact fe_neI | exact fe_eqS | exact fe_neS | exact fe_neg | exact fe_abs | exact fe_lst sz | exact fe_tup sz | exact fe_lenL | exact fe_lenT | exact fe_listL | exact fe_listT | exact fe_tupL | exact fe_isN | exact fe_ixT rfl | exact fe_ixL rfl | exact fe_slLT | exact fe_slHT | exact fe_slLL | exact fe_slHL))


/-- as data for repr: an empty dict, too -/
def pyE : D0 → Option PyData
  | .dK [] [] => some (.dict [])
  | d => py d
/-- what walk_text refuses -/
structure OddP (pd : PyData) : Prop where
  no : walkB pd = false
  ok : okD pd
  dp : pd.depth ≤ 5
  cp : cap pd ≤ 90000
  tl : ∀ ds, pd = .tuple ds → ds.length ≤ 1000
  ll : ∀ ds, pd = .list ds → ds.length ≤ 1000
  dic : pd.hasDict = true → pd = .dict []
def OddD (d : D0) : Prop := ∃ pd, pyE d = some pd ∧ OddP pd
theorem py_pts : ∀ l : List Pt, pys (l.map pD) = some (l.map ptD)
  | [] => rfl
  | p :: r => by
    rw [List.map_cons, List.map_cons]
    unfold pys
    rw [py_pts r]
    rfl
theorem pys_app : ∀ (a b : List D0) {x y : List PyData}, pys a = some x → pys b = some y → pys (a ++ b) = some (x ++ y)
  | [], b, x, y, h, k => by
    cases h
    exact k
  | d :: a, b, x, y, h, k => by
    rw [List.cons_append]
    unfold pys at h ⊢
    cases h1 : py d with
    | none => rw [h1] at h; cases h
    | some p =>
      cases h2 : pys a with
      | none => rw [h1, h2] at h; cases h
      | some ps =>
        rw [h1, h2] at h
        cases h
        rw [pys_app a b h2 k]
        rfl
theorem okPt {p : Pt} (h : onP p = true) : okD (ptD p) ∧ (ptD p).depth ≤ 1 ∧ cap (ptD p) ≤ 100 ∧ (ptD p).hasDict = false := by
  have h : ((decide (0 ≤ p.1) && decide (p.1 ≤ 30)) && (decide (0 ≤ p.2) && decide (p.2 ≤ 30))) = true := h
  simp only [Bool.and_eq_true, decide_eq_true_eq] at h
  refine ⟨?_, by show (1 : Nat) ≤ 1; decide, by show 89 ≤ 100; decide, rfl⟩
  show okD (.tuple [.int p.1, .int p.2])
  have h1 : p.1.natAbs < 10 ^ 40 := Nat.lt_of_le_of_lt (show p.1.natAbs ≤ 100 by omega) (by decide)
  have h2 : p.2.natAbs < 10 ^ 40 := Nat.lt_of_le_of_lt (show p.2.natAbs ≤ 100 by omega) (by decide)
  simp only [okD, okDs]
  exact ⟨h1, h2, trivial⟩
/-- a tuple of points on the paper and one more thing -/
theorem odd_tup {A B : List Pt} {o : PyData} (ha : ∀ z ∈ A, onP z = true) (hb : ∀ z ∈ B, onP z = true) (lA : A.length + B.length ≤ 600) (ok : okD o) (od : o.depth ≤ 4) (oc : cap o ≤ 10000) (of : o.hasDict = false)
    (no : ptB o = false ∨ ∃ b r, B = b :: r ∧ nbB o (ptD b) = false) : OddP (.tuple (A.map ptD ++ o :: B.map ptD)) where
  no := by
    show (decide (2 ≤ (A.map ptD ++ o :: B.map ptD).length) && ((A.map ptD ++ o :: B.map ptD).all ptB && (nbs (A.map ptD ++ o :: B.map ptD)).all id)) = false
    rcases no with no | ⟨b, r, rfl, no⟩
    · rw [List.all_append, List.all_cons, no]
      simp
    · have : (nbs (A.map ptD ++ o :: (b :: r).map ptD))[A.length]? = some (nbB o (ptD b)) := nbs_at (by rw [List.getElem?_append_right (by rw [List.length_map]; omega), List.length_map, Nat.sub_self]; rfl) (by rw [List.getElem?_append_right (by rw [List.length_map]; omega), List.length_map, show A.length + 1 - A.length = 1 by omega]; rfl)
      have h2 : (nbs (A.map ptD ++ o :: (b :: r).map ptD)).all id = false := by
        cases h : (nbs (A.map ptD ++ o :: (b :: r).map ptD)).all id with
        | false => rfl
        | true =>
          have := List.all_eq_true.mp h _ (List.mem_of_getElem? this)
          rw [no] at this
          cases this
      rw [h2]
      simp
  ok := by
    have h1 : okDs (A.map ptD) := okDs_all fun x hx => by
      obtain ⟨z, hz, rfl⟩ := List.mem_map.mp hx
      exact (okPt (ha z hz)).1
    have h2 : okDs (B.map ptD) := okDs_all fun x hx => by
      obtain ⟨z, hz, rfl⟩ := List.mem_map.mp hx
      exact (okPt (hb z hz)).1
    have h3 : okDs (o :: B.map ptD) := by simpa [okDs] using And.intro ok h2
    simpa [okD] using okDs_app h1 h3
  dp := by
    have := depth_all (n := 4) (l := A.map ptD ++ o :: B.map ptD) fun x hx => by
      rcases List.mem_append.mp hx with hx | hx
      · obtain ⟨z, hz, rfl⟩ := List.mem_map.mp hx
        have := (okPt (ha z hz)).2.1
        omega
      · rcases List.mem_cons.mp hx with rfl | hx
        · exact od
        · obtain ⟨z, hz, rfl⟩ := List.mem_map.mp hx
          have := (okPt (hb z hz)).2.1
          omega
    show PyData.depthAll _ + 1 ≤ 5
    omega
  cp := by
    have h1 := caps_all (n := 100) (l := A.map ptD) fun x hx => by
      obtain ⟨z, hz, rfl⟩ := List.mem_map.mp hx
      exact (okPt (ha z hz)).2.2.1
    have h2 := caps_all (n := 100) (l := B.map ptD) fun x hx => by
      obtain ⟨z, hz, rfl⟩ := List.mem_map.mp hx
      exact (okPt (hb z hz)).2.2.1
    show caps (A.map ptD ++ o :: B.map ptD) + 3 ≤ 90000
    rw [caps_app]
    show caps (A.map ptD) + (cap o + 2 + caps (B.map ptD)) + 3 ≤ 90000
    rw [List.length_map] at h1 h2
    omega
  tl := fun ds e => by
    cases e
    rw [List.length_append, List.length_cons, List.length_map, List.length_map]
    omega
  ll := fun ds e => by cases e
  dic := fun e => by
    have h : PyData.hasDictAll (A.map ptD ++ o :: B.map ptD) = false := flat_all fun x hx => by
      rcases List.mem_append.mp hx with hx | hx
      · obtain ⟨z, hz, rfl⟩ := List.mem_map.mp hx
        exact (okPt (ha z hz)).2.2.2
      · rcases List.mem_cons.mp hx with rfl | hx
        · exact of
        · obtain ⟨z, hz, rfl⟩ := List.mem_map.mp hx
          exact (okPt (hb z hz)).2.2.2
    have e : PyData.hasDictAll (A.map ptD ++ o :: B.map ptD) = true := e
    rw [h] at e
    cases e
theorem odd_lst {A : List Pt} (ha : ∀ z ∈ A, onP z = true) (lA : A.length ≤ 600) : OddP (.list (A.map ptD)) where
  no := rfl
  ok := by
    have h1 : okDs (A.map ptD) := okDs_all fun x hx => by
      obtain ⟨z, hz, rfl⟩ := List.mem_map.mp hx
      exact (okPt (ha z hz)).1
    simpa [okD] using h1
  dp := by
    have := depth_all (n := 4) (l := A.map ptD) fun x hx => by
      obtain ⟨z, hz, rfl⟩ := List.mem_map.mp hx
      have := (okPt (ha z hz)).2.1
      omega
    show PyData.depthAll _ + 1 ≤ 5
    omega
  cp := by
    have h1 := caps_all (n := 100) (l := A.map ptD) fun x hx => by
      obtain ⟨z, hz, rfl⟩ := List.mem_map.mp hx
      exact (okPt (ha z hz)).2.2.1
    show caps (A.map ptD) + 2 ≤ 90000
    rw [List.length_map] at h1
    omega
  tl := fun ds e => by cases e
  ll := fun ds e => by
    cases e
    rw [List.length_map]
    omega
  dic := fun e => by
    have h : PyData.hasDictAll (A.map ptD) = false := flat_all fun x hx => by
      obtain ⟨z, hz, rfl⟩ := List.mem_map.mp hx
      exact (okPt (ha z hz)).2.2.2
    have e : PyData.hasDictAll (A.map ptD) = true := e
    rw [h] at e
    cases e
theorem odd_flat {d : PyData} (no : walkB d = false) (ok : okD d) (dp : d.depth ≤ 5) (cp : cap d ≤ 90000) (t : ∀ ds, d = .tuple ds → ds.length ≤ 1000) (l : ∀ ds, d ≠ .list ds) (f : d.hasDict = true → d = .dict []) : OddP d := ⟨no, ok, dp, cp, t, fun ds e => absurd e (l ds), f⟩
def fOdd : Nat → List D0 → (D0 → Nat → Prop) → Prop := fun m ds q => ∃ p cs, ds = [.tup ((p :: path p cs).map pD)] ∧ ((∀ z ∈ p :: path p cs, onP z = true) ∧ cs.length ≤ 500 ∧ m ≤ 900000) ∧ ∀ d m', OddD d → m' ≤ m + 7 → q d m'
/-- what is put into the walk ahead of (x, y) -/
def OddI (x y : Int) (d : D0) : Prop := ∃ o, py d = some o ∧ okD o ∧ o.depth ≤ 4 ∧ cap o ≤ 10000 ∧ o.hasDict = false ∧ (ptB o = false ∨ nbB o (.tuple [.int x, .int y]) = false)
theorem six_hi {n i : Nat} (h : i ≤ n) : HT.sIx n n (some (i : Int)) = i := by
  show (if (i : Int) < 0 then ((i : Int) + (n : Int)).toNat else min (i : Int).toNat n) = i
  rw [if_neg (by omega)]
  simp only [Int.toNat_natCast]
  omega
theorem six_lo {n i : Nat} (h : i ≤ n) : HT.sIx n 0 (some (i : Int)) = i := by
  show (if (i : Int) < 0 then ((i : Int) + (n : Int)).toNat else min (i : Int).toNat n) = i
  rw [if_neg (by omega)]
  simp only [Int.toNat_natCast]
  omega
theorem cutD_take {l : List D0} {i : Nat} (h : i ≤ l.length) : DL.cutD l none (some (i : Int)) = l.take i := by
  unfold DL.cutD
  rw [six_hi h]
  rfl
theorem cutD_drop {l : List D0} {i : Nat} (h : i ≤ l.length) : DL.cutD l (some (i : Int)) none = l.drop i := by
  unfold DL.cutD
  rw [six_lo h]
  show (l.drop i).take (l.length - i) = l.drop i
  exact List.take_of_length_le (by rw [List.length_drop]; omega)
def oddsD (x y fx fy : Int) : List D0 := [.tup [.int fx, .int fy], .tup [.int x, .int y], .lst [.int x, .int y], .tup [.int x, .bl true], .non, .tup [.int x], .tup [.int x, .int y, .int 0], .str "ru", .tup [.int (x + 1), .int (y + 1)], .tup [.int (0 - 1), .int y], .tup [.int x, .int 31], .tup [.int fx, .int fy], .tup [.int fx, .int fy]]
theorem wayS_no {i j : Int} (h : ¬ (i = 1 ∧ j = 0)) (h2 : ¬ (i = 0 ∧ j = 1)) (h3 : ¬ (i = -1 ∧ j = 0)) (h4 : ¬ (i = 0 ∧ j = -1)) : (wayS i j).isSome = false := by
  unfold wayS
  rw [if_neg h, if_neg h2, if_neg h3, if_neg h4]
  rfl
theorem okI {i : Int} (h : i.natAbs ≤ 1000) : okD (.int i) := by
  show i.natAbs < 10 ^ 40
  exact Nat.lt_of_le_of_lt h (by decide)
theorem oddI_pt {x y a b : Int} (ha : a.natAbs ≤ 1000) (hb : b.natAbs ≤ 1000) (h : ptB (.tuple [.int a, .int b]) = false ∨ (wayS (x - a) (y - b)).isSome = false) : OddI x y (.tup [.int a, .int b]) := by
  refine ⟨.tuple [.int a, .int b], rfl, ?_, by show (1 : Nat) ≤ 4; decide, by show 89 ≤ 10000; decide, rfl, h⟩
  simp only [okD, okDs]
  exact ⟨okI ha, okI hb, trivial⟩
theorem odds_all {x y fx fy : Int} (x0 : 0 ≤ x) (x1 : x ≤ 30) (y0 : 0 ≤ y) (y1 : y ≤ 30) (hf : OddI x y (.tup [.int fx, .int fy])) {r : Int} (r0 : 0 ≤ r) (r1 : r < 13) : ∃ d, atI (oddsD x y fx fy) r = some d ∧ OddI x y d := by
  obtain ⟨j, rfl⟩ : ∃ j : Nat, r = j := ⟨r.toNat, by omega⟩
  have hj : j = 0 ∨ j = 1 ∨ j = 2 ∨ j = 3 ∨ j = 4 ∨ j = 5 ∨ j = 6 ∨ j = 7 ∨ j = 8 ∨ j = 9 ∨ j = 10 ∨ j = 11 ∨ j = 12 := by omega
  have ix : okD (.int x) := okI (by omega)
  have iy : okD (.int y) := okI (by omega)
  rcases hj with rfl | rfl | rfl | rfl | rfl | rfl | rfl | rfl | rfl | rfl | rfl | rfl | rfl
  · exact ⟨_, atI_nat rfl, hf⟩
  · exact ⟨_, atI_nat rfl, oddI_pt (by omega) (by omega) (.inr (wayS_no (by omega) (by omega) (by omega) (by omega)))⟩
  · refine ⟨_, atI_nat rfl, .list [.int x, .int y], rfl, ?_, by show (1 : Nat) ≤ 4; decide, by show 88 ≤ 10000; decide, rfl, .inl rfl⟩
    simp only [okD, okDs]
    exact ⟨okI (by omega), okI (by omega), trivial⟩
  · refine ⟨_, atI_nat rfl, .tuple [.int x, .bool true], rfl, ?_, by show (1 : Nat) ≤ 4; decide, by show 53 ≤ 10000; decide, rfl, .inl ?_⟩
    · simp only [okD, okDs]
      exact ⟨okI (by omega), trivial, trivial⟩
    · simp [ptB, cooB]
  · exact ⟨_, atI_nat rfl, .none, rfl, trivial, by decide, by decide, rfl, .inl rfl⟩
  · refine ⟨_, atI_nat rfl, .tuple [.int x], rfl, ?_, by show (1 : Nat) ≤ 4; decide, by show 46 ≤ 10000; decide, rfl, .inl rfl⟩
    simp only [okD, okDs]
    exact ⟨okI (by omega), trivial⟩
  · refine ⟨_, atI_nat rfl, .tuple [.int x, .int y, .int 0], rfl, ?_, by show (1 : Nat) ≤ 4; decide, by show 132 ≤ 10000; decide, rfl, .inl rfl⟩
    simp only [okD, okDs]
    exact ⟨okI (by omega), okI (by omega), okI (by omega), trivial⟩
  · refine ⟨_, atI_nat rfl, .str "ru", rfl, ?_, by show (0 : Nat) ≤ 4; decide, by show 1002 ≤ 10000; decide, rfl, .inl rfl⟩
    exact ⟨by decide, by decide⟩
  · exact ⟨_, atI_nat rfl, oddI_pt (by omega) (by omega) (.inr (wayS_no (by omega) (by omega) (by omega) (by omega)))⟩
  · exact ⟨_, atI_nat rfl, oddI_pt (by omega) (by omega) (.inl (by simp [ptB, cooB]))⟩
  · exact ⟨_, atI_nat rfl, oddI_pt (by omega) (by omega) (.inl (by simp [ptB, cooB]))⟩
  · exact ⟨_, atI_nat rfl, hf⟩
  · exact ⟨_, atI_nat rfl, hf⟩
section
variable {P : Program} {w : World} {K : PySem.W.Frag} {mg : Str → Option Value} {base : Heap}
theorem scLO : FnScope ["_law_box_here", "_law_walk_here", "_law_at", "_law_x", "_law_y", "_law_far", "_law_odds", "_law_mode"] ["_law_box_here", "_law_walk_here"] (defScope (top 26)) := ⟨rfl, rfl, rfl, by decide +kernel, rfl, by decide +kernel, by decide +kernel⟩
theorem tail_odd {f : Addr} {cdv : Value} {A : Around} {outer : List Env} {s : Shared} {H : Hp} {E : XK} (hr : Room 1 (A.deeper (envOfC "_law_odd" (defScope (top 26)) s.heap.objs.size f cdv))) (B : Bi mg) {fT : Addr} {fdT : FuncData} (GT : FnOk P w K mg base CX0 1 fT fdT ["_law_box_here", "_law_many"] spTk) (AT : At K mg "_law_take" fT fdT ["_law_box_here", "_law_many"]) : ∃ T, PSs (cxOf CX0 P w K mg base ["_law_box_here", "_law_walk_here", "_law_at", "_law_x", "_law_y", "_law_far", "_law_odds", "_law_mode"] "_law_odd" (defScope (top 26)) f cdv A outer s H E).nox ((defBody (top 26)).drop 5) (upS K W0 T) ∧ ∀ (D : EndsD Empty) (bp : Addr) (m : Nat) (pts : List Pt) (i : Nat) (x y fx fy : Int), m ≤ 950000 → (∀ z ∈ pts, onP z = true) → pts.length ≤ 501 → pts[i]? = some (x, y) → OddI x y (.tup [.int fx, .int fy]) →
    (∀ d m' γ, OddD d → m' ≤ m + 3 → γ[0]? = some (some (.box bp m')) → D.rt d γ) → T D [some (.box bp m), some (.dat (.tup (pts.map pD))), some (.dat (.int (i : Int))), some (.dat (.int x)), some (.dat (.int y)), some (.dat (.tup [.int fx, .int fy])), none, none] := by
  have hu64 : (A.deeper (envOfC "_law_odd" (defScope (top 26)) s.heap.objs.size f cdv)).units + 64 < cLine := by
    have := hr.un
    omega
  have hu65 : (A.deeper (envOfC "_law_odd" (defScope (top 26)) s.heap.objs.size f cdv)).units + 65 < cLine := by
    have := hr.un
    omega
  refine ⟨_, (sdc (ds_set (ps_set (i := 6) scLO.nd rfl (Or.inl rfl) (pf_pe (pf_lst (pk1 (pd_name (pv 5)) (pk1 (pd_tup (pk1 (pd_name (pv 3)) (pk1 (pd_name (pv 4)) pk0))) (pk1 (pf_pe (pf_lst (pk1 (pd_name (pv 3)) (pk1 (pd_name (pv 4)) pk0)))) (pk1 (pd_tup (pk1 (pd_name (pv 3)) (pk1 pd_bl pk0))) (pk1 pd_non (pk1 (pd_tup (pk1 (pd_name (pv 3)) pk0)) (pk1 (pd_tup (pk1 (pd_name (pv 3)) (pk1 (pd_name (pv 4)) (pk1 pd_int pk0)))) (pk1 pd_str (pk1 (pd_tup (pk1 (pd_bin op_addA od_add (po_name (pv 3)) (po_ex pd_int)) (pk1 (pd_bin op_addA od_add (po_name (pv 4)) (po_ex pd_int)) pk0))) (pk1 (pd_tup (pk1 (pd_bin op_sub od_I20 (po_ex pd_int) (po_ex pd_int)) (pk1 (pd_name (pv 4)) pk0))) (pk1 (pd_tup (pk1 (pd_name (pv 3)) (pk1 pd_int pk0))) (pk1 (pd_name (pv 5)) (pk1 (pd_name (pv 5)) pk0)))))))))))))))))
    (sdc (ds_set (ps_set (i := 7) scLO.nd rfl (Or.inl rfl) (pd_take (pe_call GT (hr.mono (by decide)) rfl AT.g AT.k AT.b .nil pass0 (pa_cons (pv 0) (pk1 pd_int pk0))))))
    (sdc (ds_if (pt_c (op_eqA hu64) od_eq (po_name (pv 7)) (po_ex pd_int) (nomark _))
    (sd1 (ds_ret (pf_pe (pf_cb (pe_callTy call_listOf (by rfl) B.list (by decide +kernel) (pa1 (po_name (pv 1)) pa0)) of_list))))
    sd0)
    (sdc (ds_if (pt_c (op_eqA hu64) od_eq (po_name (pv 7)) (po_ex pd_int) (nomark _))
    (sd1 (ds_ret (pd_slH (po_name (pv 1)) (po_ex pd_int))))
    sd0)
    (sdc (ds_if (pt_c (op_eqA hu64) od_eq (po_name (pv 7)) (po_ex pd_int) (nomark _))
    (sd1 (ds_ret (pd_ix ix_A od_ix (po_ex (pf_pe (pf_lst (pk1 pd_non (pk1 pd_int (pk1 pd_str (pk1 (pd_tup pk0) (pk1 pd_bl (pk1 pd_dnew pk0))))))))) (po_ex (pd_take (pe_call GT (hr.mono (by decide)) rfl AT.g AT.k AT.b .nil pass0 (pa_cons (pv 0) (pk1 pd_int pk0))))))))
    sd0)
    (sd1 (ds_ret (pd_bin op_addA od_add (po_ex (pd_bin op_addA od_add (po_ex (pd_slH (po_name (pv 1)) (po_name (pv 2)))) (po_ex (pd_tup (pk1 (pd_ix ix_A od_ix (po_name (pv 6)) (po_ex (pd_take (pe_call GT (hr.mono (by decide)) rfl AT.g AT.k AT.b .nil pass0 (pa_cons (pv 0) (pk1 pd_int pk0)))))) pk0))))) (po_ex (pd_slL (po_name (pv 1)) (po_name (pv 2)))))))))))), ?_⟩
  intro D bp m pts i x y fx fy hm ons lp hi hf h
  refine sq (es_set (by walk_at "evs") rfl) ?_
  have hil : i < pts.length := (List.getElem?_eq_some_iff.mp hi).1
  have hxy := ons _ (List.mem_of_getElem? hi)
  have hxy : ((decide (0 ≤ x) && decide (x ≤ 30)) && (decide (0 ≤ y) && decide (y ≤ 30))) = true := hxy
  simp only [Bool.and_eq_true, decide_eq_true_eq] at hxy
  have sl : (pts.map pD).length = pts.length := List.length_map ..
  refine sq_take rfl ev_c ⟨by omega, by decide, by decide⟩ (fun mode m0 m6 => ?_)
  refine sq_if (by walk_at "evs") (fun _ => rd_ret (by walk_at "evs") (h _ (m + 1) _ ⟨.list (pts.map ptD), by show (pys (pts.map pD)).map PyData.list = _; rw [py_pts]; rfl, odd_lst ons (by omega)⟩ (by omega) rfl)) (fun _ => sq_next ?_)
  refine sq_if (by walk_at "evs") (fun _ => rd_ret (by walk_at "evs") (h _ (m + 1) _ ?_ (by omega) rfl)) (fun _ => sq_next ?_)
  · cases pts with
    | nil => simp at hil
    | cons p0 r =>
      have e : DL.cutD ((p0 :: r).map pD) none (some 1) = [pD p0] := cutD_take (i := 1) (by rw [sl, List.length_cons]; omega)
      rw [e]
      have ok := okPt (ons p0 List.mem_cons_self)
      refine ⟨.tuple [ptD p0], rfl, odd_flat rfl (by simp only [okD, okDs]; exact ⟨ok.1, trivial⟩) (by show (2 : Nat) ≤ 5; decide) (by show 94 ≤ 90000; decide) (fun ds e => by cases e; show (1 : Nat) ≤ 1000; decide) (fun ds e => by cases e) (fun e => by cases e)⟩
  refine sq_if (by walk_at "evs") (fun _ => ?_) (fun _ => sq_next ?_)
  · refine nd_ops2 (ev_use (by walk_at "evs") (ap_take rfl ev_c ⟨by omega, by decide, by decide⟩ (fun r r0 r1 => ?_)))
    have hr : r = 0 ∨ r = 1 ∨ r = 2 ∨ r = 3 ∨ r = 4 ∨ r = 5 := by omega
    have fin : ∀ (d : D0) γ, OddD d → γ[0]? = some (some (.box bp (m + 1 + 1))) → D.rt d γ := fun d γ o e => h d (m + 1 + 1) γ o (by omega) e
    rcases hr with rfl | rfl | rfl | rfl | rfl | rfl
    · exact ⟨_, atI_nat (j := 0) rfl, fin _ _ ⟨.none, rfl, odd_flat rfl trivial (by decide) (by decide) (fun _ e => by cases e) (fun _ e => by cases e) (fun e => by cases e)⟩ rfl⟩
    · exact ⟨_, atI_nat (j := 1) rfl, fin _ _ ⟨.int 3, rfl, odd_flat rfl (okI (by decide)) (by decide) (by decide) (fun _ e => by cases e) (fun _ e => by cases e) (fun e => by cases e)⟩ rfl⟩
    · exact ⟨_, atI_nat (j := 2) rfl, fin _ _ ⟨.str "0,0 r", rfl, odd_flat rfl ⟨by decide, by decide⟩ (by decide) (by decide) (fun _ e => by cases e) (fun _ e => by cases e) (fun e => by cases e)⟩ rfl⟩
    · exact ⟨_, atI_nat (j := 3) rfl, fin _ _ ⟨.tuple [], rfl, odd_flat rfl trivial (by decide) (by decide) (fun _ e => by cases e; decide) (fun _ e => by cases e) (fun e => by cases e)⟩ rfl⟩
    · exact ⟨_, atI_nat (j := 4) rfl, fin _ _ ⟨.bool true, rfl, odd_flat rfl trivial (by decide) (by decide) (fun _ e => by cases e) (fun _ e => by cases e) (fun e => by cases e)⟩ rfl⟩
    · exact ⟨_, atI_nat (j := 5) rfl, fin _ _ ⟨.dict [], rfl, odd_flat rfl (by simp [okD]) (by decide) (by decide) (fun _ e => by cases e) (fun _ e => by cases e) (fun _ => rfl)⟩ rfl⟩
  refine nd_ops2 (nd_ops2 (ev_use (by walk_at "evs") (nd_ks1 (nd_opsN rfl take_mono (ap_take rfl ev_c ⟨by omega, by decide, by decide⟩ (fun r r0 r1 => ?_))))))
  obtain ⟨o, ho, po, hpo, ok, od, oc, of, no⟩ := odds_all hxy.1.1 hxy.1.2 hxy.2.1 hxy.2.2 hf r0 r1
  refine ⟨_, rfl, o, ho, sz, ?_, ?_⟩
  rotate_left
  refine ev_use (by walk_at "evs") ?_
  refine ⟨?_, ?_⟩
  rotate_left 2
  · rw [cutD_take (by omega), List.length_take]
    exact Nat.le_trans (show min i (pts.map pD).length + 1 ≤ 1000 by omega) (by decide)
  · rw [cutD_take (by omega), cutD_drop (by omega), List.length_append, List.length_take, List.length_drop]
    exact Nat.le_trans (show min i (pts.map pD).length + 1 + ((pts.map pD).length - i) ≤ 2000 by omega) (by decide)
  · rw [cutD_take (by omega), cutD_drop (by omega), ← List.map_take, ← List.map_drop]
    have hd : pts.drop i = (x, y) :: pts.drop (i + 1) := by
      rw [List.drop_eq_getElem_cons hil]
      congr 1
      have := List.getElem?_eq_getElem hil
      rw [hi] at this
      exact (Option.some.inj this).symm
    refine h _ (m + 2) _ ⟨.tuple ((pts.take i).map ptD ++ po :: (pts.drop i).map ptD), ?_, odd_tup (fun z hz => ons z (List.mem_of_mem_take hz)) (fun z hz => ons z (List.mem_of_mem_drop hz)) (by rw [List.length_take, List.length_drop]; omega) ok od oc of ?_⟩ (by omega) rfl
    · have h1 : pys [o] = some [po] := by
        unfold pys
        rw [hpo]
        rfl
      have := pys_app _ _ (pys_app _ _ (py_pts (pts.take i)) h1) (py_pts (pts.drop i))
      show (pys ((List.map pD (pts.take i) ++ [o]) ++ List.map pD (pts.drop i))).map PyData.tuple = _
      rw [this, List.append_assoc]
      rfl
    · rcases no with no | no
      · exact .inl no
      · exact .inr ⟨_, _, hd, no⟩
end
end U1
set_option Elab.async false
set_option linter.all false
set_option maxRecDepth 100000
set_option maxHeartbeats 16000000
namespace U1
open PySem PySem.Spec PyProof.Rows L2 Nv SX DL
local macro_rules | `(tactic| walk_at "evs") => `(tactic| repeat (first
  | exact ev_c | exact ev_n rfl | exact evk0 | exact eva0 | apply evk1 | apply eva_nm rfl | apply eva_ex | apply ev_ks | apply ev_ops | apply ev_ch | apply evt_v | apply evt_not
  | exact fe_addI | exact fe_I0 | exact fe_B | exact fe_eqI | exact fe_neI | exact fe_eqS | exact fe_neS | exact fe_neg | exact fe_abs | exact fe_lst sz | exact fe_tup sz | exact fe_lenL | exact fe_lenT | exact fe_listL | exact fe_listT | exact fe_tupL | exact fe_isN | exact fe_ixT rfl | exact fe_ixL rfl | exact fe_slLT | exact fe_slHT | exact fe_slLL | exact fe_slHL))
section
variable {P : Program} {w : World} {K : PySem.W.Frag} {mg : Str → Option Value} {base : Heap}
theorem ok_oddD {f : Addr} {fd : FuncData} (F : Fun K "_law_odd" "_law_odd" (top 26) f fd) (B : Bi mg) {fT : Addr} {fdT : FuncData} (GT : FnOk P w K mg base CX0 1 fT fdT ["_law_box_here", "_law_many"] spTk) (AT : At K mg "_law_take" fT fdT ["_law_box_here", "_law_many"]) : FnOk P w K mg base CX0 2 f fd ["_law_box_here", "_law_walk_here"] (DL.spB K W0 fOdd) := by
  refine fnB F scLO (fun m ds q h => ?_) fun cdv A outer s H E hr => ?_
  · obtain ⟨_, _, rfl, _⟩ := h
    rfl
  have hu64 : (A.deeper (envOfC "_law_odd" (defScope (top 26)) s.heap.objs.size f cdv)).units + 64 < cLine := by
    have := hr.un
    omega
  have hu65 : (A.deeper (envOfC "_law_odd" (defScope (top 26)) s.heap.objs.size f cdv)).units + 65 < cLine := by
    have := hr.un
    omega
  obtain ⟨TT, HT, go⟩ := tail_odd (P := P) (w := w) (mg := mg) (base := base) (f := f) (cdv := cdv) (A := A) (outer := outer) (s := s) (H := H) (E := E) hr B GT AT
  refine ⟨_, (sdc (ds_set (ps_set (i := 2) scLO.nd rfl (Or.inl rfl) (pd_take (pe_call GT (hr.mono (by decide)) rfl AT.g AT.k AT.b .nil pass0 (pa_cons (pv 0) (pk1 (pd_cb (pe_callB call_lenA (by rfl) B.len PySem.boot_len (pa1 (po_name (pv 1)) pa0)) od_len) pk0))))))
    (sdc (ds_asg (ps_asg (pd_ix ix_A od_ix (po_name (pv 1)) (po_name (pv 2))) (gd_tup (n := 2) (pg_tup rfl (gsd1 (gd_name (pg_name (i := 3) scLO.nd rfl (Or.inl rfl))) (gsd1 (gd_name (pg_name (i := 4) scLO.nd rfl (Or.inl rfl))) gsd0))) (gsLenC gN_mono (gsLenC gN_mono gsLen0)))))
    (sdc (ds_if (pt_c (op_eqA hu64) od_eq (po_ex (pd_take (pe_call GT (hr.mono (by decide)) rfl AT.g AT.k AT.b .nil pass0 (pa_cons (pv 0) (pk1 pd_int pk0))))) (po_ex pd_int) (nomark _))
    (sd1 (ds_ret (pd_bin op_addA od_add (po_name (pv 1)) (po_ex (pd_tup (pk1 (pd_tup (pk1 (pd_name (pv 3)) (pk1 (pd_name (pv 4)) (pk1 pd_int pk0)))) pk0))))))
    sd0)
    (sdc (ds_set (ps_set (i := 5) scLO.nd rfl (Or.inl rfl) (pd_tup (pk1 (pd_bin op_sub od_I20 (po_ex (pd_bin op_addA od_add (po_name (pv 3)) (po_ex (pd_take (pe_call GT (hr.mono (by decide)) rfl AT.g AT.k AT.b .nil pass0 (pa_cons (pv 0) (pk1 pd_int pk0))))))) (po_ex pd_int)) (pk1 (pd_bin op_sub od_I20 (po_ex (pd_bin op_addA od_add (po_name (pv 4)) (po_ex (pd_take (pe_call GT (hr.mono (by decide)) rfl AT.g AT.k AT.b .nil pass0 (pa_cons (pv 0) (pk1 pd_int pk0))))))) (po_ex pd_int)) pk0)))))
    (sdc (ds_if (pt_c (op_eqA hu64) od_eq (po_ex (pd_bin op_addA od_add (po_ex (pd_cb (pe_callB call_abs (by rfl) B.abs (by decide +kernel) (pa1 (po_ex (pd_bin op_sub od_I20 (po_ex (pd_ix ix_A od_ix (po_name (pv 5)) (po_ex pd_int))) (po_name (pv 3)))) pa0)) od_abs)) (po_ex (pd_cb (pe_callB call_abs (by rfl) B.abs (by decide +kernel) (pa1 (po_ex (pd_bin op_sub od_I20 (po_ex (pd_ix ix_A od_ix (po_name (pv 5)) (po_ex pd_int))) (po_name (pv 4)))) pa0)) od_abs)))) (po_ex pd_int) (nomark _))
    (sd1 (ds_set (ps_set (i := 5) scLO.nd rfl (Or.inl rfl) (pd_tup (pk1 (pd_bin op_addA od_add (po_name (pv 3)) (po_ex pd_int)) (pk1 (pd_bin op_sub od_I20 (po_name (pv 4)) (po_ex pd_int)) pk0))))))
    sd0)
    HT))))), ?_⟩
  rintro bp m ds q ⟨p, cs, rfl, ⟨ons, lc, hm⟩, h⟩
  generalize hp : p :: path p cs = pts at ons h
  have lp : pts.length = cs.length + 1 := by rw [← hp, List.length_cons, path_len]
  have sl : (pts.map pD).length = pts.length := List.length_map ..
  refine sq_take rfl (by walk_at "evs") ⟨by omega, by omega, by omega⟩ (fun at_ a0 a1 => ?_)
  obtain ⟨i, rfl⟩ : ∃ i : Nat, at_ = i := ⟨at_.toNat, by omega⟩
  have hil : i < pts.length := by omega
  obtain ⟨x, y, hi⟩ : ∃ x y, pts[i]? = some (x, y) := ⟨pts[i].1, pts[i].2, List.getElem?_eq_getElem hil⟩
  have hix : atI (pts.map pD) (i : Int) = some (.tup [.int x, .int y]) := atI_nat (by rw [List.getElem?_map, hi]; rfl)
  have hxy := ons _ (List.mem_of_getElem? hi)
  have hxy : ((decide (0 ≤ x) && decide (x ≤ 30)) && (decide (0 ≤ y) && decide (y ≤ 30))) = true := hxy
  simp only [Bool.and_eq_true, decide_eq_true_eq] at hxy
  refine sq (es_asg (ev_ops (eva_nm rfl (eva_nm rfl eva0)) (fe_ixT hix)) (fun q h => h)) ?_
  refine sq_ifN (nd_b (nd_ops2 (ap_take rfl ev_c ⟨by omega, by decide, by decide⟩ (fun r r0 r1 => ?_))))
  refine ite2 (fun _ => ?_) (fun _ => sq_next ?_)
  · refine rd_ret (ev_ops (eva_nm rfl (eva_ex (by walk_at "evs") eva0)) (fe_addT ?_)) ⟨_, rfl, h _ _ ⟨.tuple (pts.map ptD ++ [.tuple [.int x, .int y, .int 0]]), ?_, ?_⟩ (by omega)⟩
    · rw [sl]
      exact Nat.le_trans (show pts.length + 1 ≤ 1000 by omega) (by decide)
    · have := pys_app _ [.tup [.int x, .int y, .int 0]] (py_pts pts) rfl
      show (pys _).map PyData.tuple = _
      rw [this]
      rfl
    · exact odd_tup (A := pts) (B := []) ons (fun z hz => by cases hz) (by show pts.length + 0 ≤ 600; omega) (by simp only [okD, okDs]; exact ⟨okI (by omega), okI (by omega), okI (by omega), trivial⟩) (by show (1 : Nat) ≤ 4; decide) (by show 132 ≤ 10000; decide) rfl (.inl rfl)
  refine sq_setN (nd_ks2 (nd_ops2 (nd_opsN rfl take_mono (ap_take rfl ev_c ⟨by omega, by decide, by decide⟩ (fun u u0 u1 => ⟨_, rfl, ?_⟩)))))
  refine fe_use fe_addI (ev_use ev_c (fe_use fe_I0 ?_))
  refine nd_ops2 (nd_opsN rfl take_mono (ap_take rfl ev_c ⟨by omega, by decide, by decide⟩ (fun v v0 v1 => ⟨_, rfl, ?_⟩)))
  refine fe_use fe_addI (ev_use ev_c (fe_use fe_I0 (fe_use (fe_tup sz) ?_)))
  refine sq_if (by walk_at "evs") (fun c => ?_) (fun c => sq_next ?_)
  · refine es_set (by walk_at "evs") rfl _ ?_
    refine go _ bp _ pts i x y _ _ (by omega) ons (by omega) hi (oddI_pt (by omega) (by omega) (.inr (wayS_no (by omega) (by omega) (by omega) (by omega)))) fun d m' γ od hm' h0 => ⟨m', h0, h d m' od (by omega)⟩
  · have c := of_decide_eq_false c
    refine go _ bp _ pts i x y _ _ (by omega) ons (by omega) hi (oddI_pt (by omega) (by omega) (.inr ?_)) fun d m' γ od hm' h0 => ⟨m', h0, h d m' od (by omega)⟩
    have e1 : (if x + u - 3 - x < 0 then -(x + u - 3 - x) else x + u - 3 - x) = (if u - 3 < 0 then -(u - 3) else u - 3) := by rw [show x + u - 3 - x = u - 3 by omega]
    have e2 : (if y + v - 3 - y < 0 then -(y + v - 3 - y) else y + v - 3 - y) = (if v - 3 < 0 then -(v - 3) else v - 3) := by rw [show y + v - 3 - y = v - 3 by omega]
    have c : ¬ (if u - 3 < 0 then -(u - 3) else u - 3) + (if v - 3 < 0 then -(v - 3) else v - 3) = 1 := by rw [← e1, ← e2]; exact c
    refine wayS_no ?_ ?_ ?_ ?_ <;> (split at c <;> split at c <;> omega)
end
end U1
set_option Elab.async false
set_option linter.all false
set_option maxRecDepth 100000
set_option maxHeartbeats 16000000
namespace U1
open PySem PySem.Spec PyProof.Rows L2 Nv SX
/-! ### between the two layers -/
theorem BoxAt.le {H : Hp} {p : Addr} {m m' : Int} (h : BoxAt H p m) (le : m ≤ m') : BoxAt H p m' := by
  obtain ⟨b0, b1, b2, h1, h2, h3, h4, h5⟩ := h
  exact ⟨b0, b1, b2, h1, h2, h3, h4, by omega⟩
theorem BoxAt.more {H H' : Hp} {p : Addr} {m : Int} (k : Same H H') (h : BoxAt H p m) : BoxAt H' p m := by
  obtain ⟨b0, b1, b2, h1, h2⟩ := h
  exact ⟨b0, b1, b2, k _ _ h1, h2⟩
theorem BoxAt.some {H : Hp} {p : Addr} {m : Int} (h : BoxAt H p m) : ∃ o, H p = some o := by
  obtain ⟨b0, b1, b2, h1, h2⟩ := h
  exact ⟨_, h1⟩
theorem BoxAt.ne {H : Hp} {p a : Addr} {m : Int} (h : BoxAt H p m) (n : H a = none) : a ≠ p := fun e => by
  obtain ⟨o, q⟩ := h.some
  rw [← e, n] at q
  cases q
theorem but_tr {p : Addr} {a b c : Hp} (h : But p a b) (k : But p b c) : But p a c := fun x o n e => k x o n (h x o n e)
theorem but_of {p : Addr} {a b : Hp} (h : Same a b) : But p a b := fun x o _ e => h x o e
mutual
theorem dv_nv {K : PySem.W.Frag} {g : DL.Gh Empty} {H : Hp} (s : DL.Subs W0 g H) : ∀ {v : V} {d : D0} {p : PyData}, DL.DV K g v d → DL.py d = some p → Nv.DV H v p
  | _, _, _, .non, e => by cases e; exact .non
  | _, _, _, .bl b, e => by cases e; exact .bl b
  | _, _, _, .int i, e => by cases e; exact .int i
  | _, _, _, .str x, e => by cases e; exact .str x
  | _, _, _, .lst (ds := ds) h r, e => by
    unfold DL.py at e
    cases h2 : DL.pys ds with
    | none => rw [h2] at e; cases e
    | some ps =>
      rw [h2] at e
      cases e
      exact .lst (DL.Real.ho s h) (dvs_nv s r h2)
  | _, _, _, .tup (ds := ds) h r, e => by
    unfold DL.py at e
    cases h2 : DL.pys ds with
    | none => rw [h2] at e; cases e
    | some ps =>
      rw [h2] at e
      cases e
      exact .tup (DL.Real.ho s h) (dvs_nv s r h2)
  | _, _, _, .dK h l r, e => by cases e
  | _, _, _, .dT h l r, e => by cases e
  | _, _, _, .obj h, e => by cases e
theorem dvs_nv {K : PySem.W.Frag} {g : DL.Gh Empty} {H : Hp} (s : DL.Subs W0 g H) : ∀ {vs : List V} {ds : List D0} {ps : List PyData}, DL.DVs K g vs ds → DL.pys ds = some ps → Nv.DVs H vs ps
  | _, _, _, .nil, e => by cases e; exact .nil
  | _, _, _, .cons (d := d) (ds := ds) h r, e => by
    unfold DL.pys at e
    cases h1 : DL.py d with
    | none => rw [h1] at e; cases e
    | some p =>
      cases h2 : DL.pys ds with
      | none => rw [h1, h2] at e; cases e
      | some ps =>
        rw [h1, h2] at e
        cases e
        exact .cons (dv_nv s h h1) (dvs_nv s r h2)
end
theorem dv_nvE {K : PySem.W.Frag} {g : DL.Gh Empty} {H : Hp} (s : DL.Subs W0 g H) {v : V} {d : D0} {p : PyData} (h : DL.DV K g v d) (e : pyE d = some p) : Nv.DV H v p := by
  cases h with
  | dK h l r =>
    rename_i a ks xs ds
    cases ks with
    | nil =>
      cases xs with
      | nil =>
        cases r
        cases e
        exact .emp (DL.Real.ho s h)
      | cons _ _ => cases l
    | cons _ _ => cases ds <;> cases e
  | non => exact dv_nv (K := K) s (DL.DV.non : DL.DV K g _ _) e
  | bl b => exact dv_nv (K := K) s (.bl b : DL.DV K g _ _) e
  | int i => exact dv_nv (K := K) s (.int i : DL.DV K g _ _) e
  | str x => exact dv_nv (K := K) s (.str x : DL.DV K g _ _) e
  | lst h r => exact dv_nv (K := K) s (.lst h r : DL.DV K g _ _) e
  | tup h r => exact dv_nv (K := K) s (.tup h r : DL.DV K g _ _) e
  | dT h l r => cases e
  | obj h => cases e
/-- the tuples -/
def gT (H : Hp) : DL.Gh Empty := fun a => match H a with
  | some (.tup xs) => some (.ho (.tup xs))
  | _ => none
def fT (H : Hp) : Hp := fun a => match H a with
  | some (.tup _) => none
  | o => o
theorem gT_at {H : Hp} {a : Addr} {xs : List V} (h : H a = some (.tup xs)) : gT H a = some (.ho (.tup xs)) := by
  unfold gT
  rw [h]
theorem of_gT {H : Hp} {a : Addr} {o : DL.GO Empty} (h : gT H a = some o) : ∃ xs, H a = some (.tup xs) ∧ o = .ho (.tup xs) := by
  unfold gT at h
  split at h
  · rename_i xs e
    cases h
    exact ⟨xs, e, rfl⟩
  · cases h
theorem gT_sub {H : Hp} : DL.Subs W0 (gT H) H := fun a o h => by
  obtain ⟨xs, e, rfl⟩ := of_gT h
  exact .inl e
theorem fT_fr {H : Hp} {a : Addr} {o : HO} (h : fT H a = some o) : H a = some o ∧ gT H a = none := by
  unfold fT at h
  unfold gT
  split at h
  · cases h
  · rename_i n
    refine ⟨h, ?_⟩
    first
      | rfl
      | (split
         · rename_i xs e
           exact absurd e (n xs)
         · rfl)
theorem pt_dl {K : PySem.W.Frag} {H : Hp} {v : V} {p : Pt} (h : Nv.DV H v (ptD p)) : DL.DV K (gT H) v (pD p) := by
  obtain ⟨a, rfl, ha⟩ := dv_pt h
  exact .tup (gT_at ha) (.cons (.int _) (.cons (.int _) .nil))
theorem pts_dl {K : PySem.W.Frag} {H : Hp} : ∀ {vs : List V} {l : List Pt}, Nv.DVs H vs (l.map ptD) → DL.DVs K (gT H) vs (l.map pD)
  | _, [], h => by
    cases h
    exact .nil
  | _, p :: r, h => by
    cases h with
    | cons h1 h2 => exact .cons (pt_dl h1) (pts_dl h2)
theorem same_of {H H' : Hp} {g' : DL.Gh Empty} (le : DL.Le (gT H) g') (fr : DL.Frm W0 (fT H) g' H') : Same H H' := fun a o h => by
  by_cases ht : ∃ xs, o = .tup xs
  · obtain ⟨xs, rfl⟩ := ht
    exact DL.Real.ho fr.sub (le _ _ (gT_at h))
  · have : fT H a = some o := by
      unfold fT
      rw [h]
      split
      · rename_i xs e
        exact absurd ⟨xs, Option.some.inj e⟩ ht
      · rfl
    exact (fr.fr a o this).1
theorem but_of' {H H' : Hp} {p : Addr} {g' : DL.Gh Empty} (le : DL.Le (gT H) g') (fr : DL.Frm W0 (fun a => if a = p then none else fT H a) g' H') : But p H H' := fun a o ne h => by
  by_cases ht : ∃ xs, o = .tup xs
  · obtain ⟨xs, rfl⟩ := ht
    exact DL.Real.ho fr.sub (le _ _ (gT_at h))
  · have : fT H a = some o := by
      unfold fT
      rw [h]
      split
      · rename_i xs e
        exact absurd ⟨xs, Option.some.inj e⟩ ht
      · rfl
    exact (fr.fr a o (by simp only [if_neg ne]; exact this)).1
theorem box_nt {H : Hp} {p : Addr} {m : Int} (b : BoxAt H p m) : gT H p = none := by
  obtain ⟨b0, b1, b2, h, _⟩ := b
  unfold gT
  rw [h]
/-- calls of the law's own, told over the heap -/
def spWalkH : Sp := fun vs H Q _ => ∃ (bp : Addr) (m : Nat) (many : Int), vs = [.ref bp, .int many] ∧ BoxAt H bp m ∧ 2 ≤ many ∧ many ≤ 402 ∧ m ≤ 900000 ∧
  ∀ a xs p cs H', OkP p cs → (cs.length : Int) = many - 1 → But bp H H' → BoxAt H' bp ((m + 42 : Nat) : Int) → H' a = some (.tup xs) → Nv.DVs H' xs ((p :: path p cs).map ptD) → Q (.ref a) H'
def spTextH : Sp := fun vs H Q _ => ∃ (a : Addr) (xs : List V) (p : Pt) (cs : List Nat), vs = [.ref a] ∧ H a = some (.tup xs) ∧ Nv.DVs H xs ((p :: path p cs).map ptD) ∧ OkP p cs ∧ ∀ H', Same H H' → Q (.str (S (txtOf p cs))) H'
def spOddH : Sp := fun vs H Q _ => ∃ (bp a : Addr) (m : Nat) (xs : List V) (p : Pt) (cs : List Nat), vs = [.ref bp, .ref a] ∧ BoxAt H bp m ∧ m ≤ 900000 ∧ H a = some (.tup xs) ∧ Nv.DVs H xs ((p :: path p cs).map ptD) ∧ (∀ z ∈ p :: path p cs, onP z = true) ∧ cs.length ≤ 500 ∧
  ∀ v pd H', OddP pd → Nv.DV H' v pd → (∀ b, v = .ref b → b ≠ bp ∧ ∀ o, H b = some o → ∃ xs, o = .tup xs) → But bp H H' → BoxAt H' bp ((m + 7 : Nat) : Int) → Q v H'
theorem boxN {H : Hp} {p : Addr} {m : Nat} : BoxAt H p (m : Int) ↔ DL.BoxAt H p m := Iff.rfl
theorem walk_weak {K : PySem.W.Frag} : ∀ vs H Q E, spWalkH vs H Q E → DL.spB K W0 fWalk vs H Q E := fun vs H Q E ⟨bp, m, many, e, b, h1, h2, h3, q⟩ => by
  refine ⟨fun a => if a = bp then none else fT H a, gT H, bp, m, [.int many], [.int many], fun d m' => ∃ p cs, d = .tup ((p :: path p cs).map pD) ∧ OkP p cs ∧ (cs.length : Int) = many - 1 ∧ m' ≤ m + 42, e, ⟨gT_sub, fun a o ha => ?_⟩, if_pos rfl, box_nt b, b, .cons (.int _) .nil, ⟨many, rfl, ⟨h1, h2, h3⟩, fun p cs m' ok hl hm => ⟨p, cs, rfl, ok, hl, hm⟩⟩, fun d m' v g' H' ⟨p, cs, e2, ok, hl, hm⟩ le fr gn bx dv => ?_⟩
  · by_cases z : a = bp
    · simp only [if_pos z] at ha
      cases ha
    · simp only [if_neg z] at ha
      exact fT_fr ha
  · subst e2
    have bx' : BoxAt H' bp ((m + 42 : Nat) : Int) := BoxAt.le (m := (m' : Int)) bx (by omega)
    cases dv with
    | tup h r =>
      refine q _ _ p cs H' ok hl (but_of' le fr) bx' (DL.Real.ho fr.sub h) (dvs_nv fr.sub r (py_pts _))
theorem text_weak {K : PySem.W.Frag} : ∀ vs H Q E, spTextH vs H Q E → DL.spP K W0 fText vs H Q E := fun vs H Q E ⟨a, xs, p, cs, e, ha, dvs, ok, q⟩ => by
  subst e
  refine ⟨fT H, gT H, [.tup ((p :: path p cs).map pD)], fun d => d = .str (S (txtOf p cs)), ⟨gT_sub, fun a o ha => fT_fr ha⟩, .cons (.tup (gT_at ha) (pts_dl dvs)) .nil, ⟨p, cs, rfl, ok, rfl⟩, fun d v g' H' e le fr dv => ?_⟩
  subst e
  cases dv
  exact q H' (same_of le fr)
theorem odd_weak {K : PySem.W.Frag} : ∀ vs H Q E, spOddH vs H Q E → DL.spB K W0 fOdd vs H Q E := fun vs H Q E ⟨bp, a, m, xs, p, cs, e, b, hm, ha, dvs, ons, lc, q⟩ => by
  refine ⟨fun a => if a = bp then none else fT H a, gT H, bp, m, [.ref a], [.tup ((p :: path p cs).map pD)], fun d m' => OddD d ∧ m' ≤ m + 7, e, ⟨gT_sub, fun a o ha => ?_⟩, if_pos rfl, box_nt b, b, .cons (.tup (gT_at ha) (pts_dl dvs)) .nil, ⟨p, cs, rfl, ⟨ons, lc, hm⟩, fun d m' o h => ⟨o, h⟩⟩, fun d m' v g' H' ⟨⟨pd, hpd, od⟩, hm'⟩ le fr gn bx dv => ?_⟩
  · by_cases z : a = bp
    · simp only [if_pos z] at ha
      cases ha
    · simp only [if_neg z] at ha
      exact fT_fr ha
  · have nb : ∀ b, v = .ref b → g' b ≠ none := fun b eb z => by
      subst eb
      cases dv with
      | lst h r => rw [z] at h; cases h
      | tup h r => rw [z] at h; cases h
      | dK h l r => rw [z] at h; cases h
      | dT h l r => rw [z] at h; cases h
      | obj h => rw [z] at h; cases h
    refine q v pd H' od (dv_nvE fr.sub dv hpd) (fun b eb => ?_) (but_of' le fr) (BoxAt.le (m := (m' : Int)) bx (by omega))
    have ne : b ≠ bp := fun z => nb b eb (by rw [z]; exact gn)
    refine ⟨ne, fun o ho => ?_⟩
    by_cases ht : ∃ xs, o = .tup xs
    · exact ht
    · have fb : (fun a => if a = bp then none else fT H a) b = some o := by
        simp only [if_neg ne]
        unfold fT
        rw [ho]
        split
        · rename_i xs e
          exact absurd ⟨xs, Option.some.inj e⟩ ht
        · rfl
      exact absurd (fr.fr b o fb).2 (nb b eb)
end U1
set_option Elab.async false
set_option linter.all false
set_option maxRecDepth 100000
set_option maxHeartbeats 16000000
namespace U1
open PySem PySem.Spec PyProof.Rows L2 Nv SX
/-! ### an exception equals itself -/
section
variable {M : Model} {prog : Program} {w : World} {A : Around} {E : Value → Shared → Prop} {s : Shared} {K : PySem.W.Frag} {x C : Addr} {ox : Obj} {od : Option Obj}
theorem call_objEqS {Q : Value → Shared → Prop} (X : K.In s.heap) (I : PySem.W.InstAt s.heap x ox C od) (hm : PySem.W.mroIn K C (.type "object") = some true) (hq : Q (.bool true) s) :
    wpAny (model prog w) A (call (.builtin "object.__eq__") [.ref x, .ref x]) Q E s :=
  wpAny_call (codeAny_call_builtin F.cmp_object.eq.plain F.cmpEntry_eq (PySem.W.check_slot F.cmpKind_eq F.cmpSplit_eq (I.type.andThen (PySem.W.looks_mroIn X hm)) (F.cmpArgs_eq _ _) (objEq_entry_same hq)))
theorem rc_self {Q : Value → Shared → Prop} (hu : A.units < cLine) (X : K.In s.heap) (I : PySem.W.InstAt s.heap x ox C od) (hm : PySem.W.mroIn K C (.type "object") = some true) (hs : PySem.W.findIn K (.ref C) "__eq__" = some (some (.builtin "object.__eq__")))
    (h : Q (.bool true) s) : wpAny (model prog w) A (richCompare .Eq (.ref x) (.ref x)) Q E s := by
  have one : wpAny (model prog w) A (tryCompare (.ref x) "__eq__" (.ref x)) (fun r s' => r = some (.bool true) ∧ s' = s) E s := by
    unfold tryCompare
    exact wpAny_bind (HN.ifBound_objEq X I hs (call_objEqS X I hm (wpAny_pure ⟨rfl, rfl⟩)))
  simp only [richCompare, cmpInfo_Eq, oneThing_ref]
  refine wpAny_holding (wpAny_bind (wpAny_cRoomFor hu ?_))
  refine wpAny_bind (I.type.here ?_)
  refine wpAny_bind (I.type.here ?_)
  split
  · rename_i q
    exact absurd q (by simp)
  · refine wpAny_bind (m := tryCompare (.ref x) _ (.ref x)) (wpAny_mono one (fun r s1 z => ?_) fun _ _ e => e)
    obtain ⟨z1, z2⟩ := z
    subst z1
    subst z2
    exact wpAny_pure h
end
def rEqX (K : PySem.W.Frag) : R2 := fun x y H Q => ∃ (a C : Addr), x = .ref a ∧ y = .ref a ∧ XIn H a C ∧ PySem.W.mroIn K C (.type "object") = some true ∧ PySem.W.findIn K (.ref C) "__eq__" = some (some (.builtin "object.__eq__")) ∧ Q (.bl true) H
theorem op_eqXX {X : Cx} (hu : X.A.units < cLine) : OpR X (compareOp .Eq) (rEqX X.K) := by
  intro pins s σ H x y v u Q I rx ry h
  obtain ⟨a, C, rfl, rfl, xi, hm, hs, q⟩ := h
  cases (show v = Value.ref a from rx)
  cases (show u = Value.ref a from ry)
  obtain ⟨ox, od, J⟩ := xi.inst I.hok
  exact rc_self hu I.kIn J hm hs ⟨.bl true, H, I, rfl, q⟩
/-! ### the text read back -/
theorem numL_two (n : Nat) (h : n ≤ 30) : 44 ∉ TL.numL n ∧ 32 ∉ TL.numL n ∧ (TL.numL n).length ≤ 2 := by
  have nl : ∀ n : Fin 31, 44 ∉ TL.numL n.val ∧ 32 ∉ TL.numL n.val ∧ (TL.numL n.val).length ≤ 2 := by decide +kernel
  exact nl ⟨n, by omega⟩
theorem onP_b {p : Pt} (h : onP p = true) : 0 ≤ p.1 ∧ p.1 ≤ 30 ∧ 0 ≤ p.2 ∧ p.2 ≤ 30 := by
  have o1 := Bool.and_eq_true_iff.mp (show ((decide (0 ≤ p.1) && decide (p.1 ≤ 30)) && (decide (0 ≤ p.2) && decide (p.2 ≤ 30))) = true from h)
  have o2 := Bool.and_eq_true_iff.mp o1.1
  have o3 := Bool.and_eq_true_iff.mp o1.2
  exact ⟨of_decide_eq_true o2.1, of_decide_eq_true o2.2, of_decide_eq_true o3.1, of_decide_eq_true o3.2⟩
theorem read_back {p : Pt} {cs : List Nat} (ok : OkP p cs) (h4 : cs.length ≤ 400) : walkOf (txtOf p cs) = some (p :: path p cs) := by
  obtain ⟨x0, x1, y0, y1⟩ := onP_b (ok.on p List.mem_cons_self)
  obtain ⟨a1, a2, a3⟩ := numL_two p.1.toNat (by omega)
  obtain ⟨b1, b2, b3⟩ := numL_two p.2.toNat (by omega)
  obtain ⟨c1, c2⟩ := cw_num (n := p.1.toNat) (by omega)
  obtain ⟨d1, d2⟩ := cw_num (n := p.2.toNat) (by omega)
  have e : txtOf p cs = (TL.numL p.1.toNat ++ 44 :: TL.numL p.2.toNat) ++ 32 :: cs := by
    unfold txtOf
    simp only [List.append_assoc, List.cons_append]
  have n32 : 32 ∉ TL.numL p.1.toNat ++ 44 :: TL.numL p.2.toNat := fun z => by
    rcases List.mem_append.mp z with z | z
    · exact a2 z
    · rcases List.mem_cons.mp z with z | z
      · cases z
      · exact b2 z
  have hp : parts (txtOf p cs) = (TL.numL p.1.toNat ++ 44 :: TL.numL p.2.toNat, cs) := by
    unfold parts
    rw [e, par_cut n32]
  have hn : nums (TL.numL p.1.toNat ++ 44 :: TL.numL p.2.toNat) = some p := by
    rw [nums_two (spl_cut a1 |>.trans (by rw [spl_one b1])), c1, d1, c2, d2]
    show some (((p.1.toNat : Nat) : Int), ((p.2.toNat : Nat) : Int)) = some p
    rw [show ((p.1.toNat : Nat) : Int) = p.1 by omega, show ((p.2.toNat : Nat) : Int) = p.2 by omega]
  unfold walkOf
  rw [hp]
  show (match nums (TL.numL p.1.toNat ++ 44 :: TL.numL p.2.toNat) with
    | none => none
    | some p => if 0 < cs.length ∧ cs.length < 401 then walkIf p cs else none) = _
  rw [hn]
  show (if 0 < cs.length ∧ cs.length < 401 then walkIf p cs else none) = _
  have l := ok.l
  rw [if_pos (by omega)]
  unfold walkIf
  rw [if_pos ok.d, if_pos (List.all_eq_true.mpr ok.on)]
theorem txt_len {p : Pt} {cs : List Nat} (ok : OkP p cs) : (txtOf p cs).length ≤ 510 := by
  obtain ⟨x0, x1, y0, y1⟩ := onP_b (ok.on p List.mem_cons_self)
  obtain ⟨_, _, a3⟩ := numL_two p.1.toNat (by omega)
  obtain ⟨_, _, b3⟩ := numL_two p.2.toNat (by omega)
  have l := ok.l
  unfold txtOf
  simp only [List.length_append, List.length_cons]
  omega
/-! ### a list that grows -/
mutual
theorem dv_uniq {H : Hp} : ∀ {v : V} {d d' : PyData}, DV H v d → DV H v d' → d = d'
  | _, _, _, .non, .non => rfl
  | _, _, _, .bl _, .bl _ => rfl
  | _, _, _, .int _, .int _ => rfl
  | _, _, _, .str _, .str _ => rfl
  | _, _, _, .lst h r, .lst h' r' => by
    rw [h] at h'
    cases h'
    rw [dvs_uniq r r']
  | _, _, _, .lst h r, .tup h' r' => by rw [h] at h'; cases h'
  | _, _, _, .lst h r, .emp h' => by rw [h] at h'; cases h'
  | _, _, _, .tup h r, .lst h' r' => by rw [h] at h'; cases h'
  | _, _, _, .tup h r, .tup h' r' => by
    rw [h] at h'
    cases h'
    rw [dvs_uniq r r']
  | _, _, _, .tup h r, .emp h' => by rw [h] at h'; cases h'
  | _, _, _, .emp h, .lst h' r' => by rw [h] at h'; cases h'
  | _, _, _, .emp h, .tup h' r' => by rw [h] at h'; cases h'
  | _, _, _, .emp h, .emp h' => rfl
theorem dvs_uniq {H : Hp} : ∀ {vs : List V} {ds ds' : List PyData}, DVs H vs ds → DVs H vs ds' → ds = ds'
  | _, _, _, .nil, .nil => rfl
  | _, _, _, .cons h r, .cons h' r' => by rw [dv_uniq h h', dvs_uniq r r']
end
mutual
theorem dv_but {H H' : Hp} {a : Addr} {D : PyData} (hD : DV H (.ref a) D) (k : But a H H') : ∀ {v : V} {d : PyData}, DV H v d → d.depth < D.depth → DV H' v d
  | _, _, .non, _ => .non
  | _, _, .bl b, _ => .bl b
  | _, _, .int i, _ => .int i
  | _, _, .str x, _ => .str x
  | _, _, .lst (a := b) (ds := ds) h r, l => by
    have ne : b ≠ a := fun e => by
      subst e
      rw [dv_uniq (.lst h r) hD] at l
      exact Nat.lt_irrefl _ l
    refine .lst (k _ _ ne h) (dvs_but hD k r ?_)
    have : (PyData.list ds).depth = PyData.depthAll ds + 1 := rfl
    omega
  | _, _, .tup (a := b) (ds := ds) h r, l => by
    have ne : b ≠ a := fun e => by
      subst e
      rw [dv_uniq (.tup h r) hD] at l
      exact Nat.lt_irrefl _ l
    refine .tup (k _ _ ne h) (dvs_but hD k r ?_)
    have : (PyData.tuple ds).depth = PyData.depthAll ds + 1 := rfl
    omega
  | _, _, .emp (a := b) h, l => by
    have ne : b ≠ a := fun e => by
      subst e
      rw [dv_uniq (.emp h) hD] at l
      exact Nat.lt_irrefl _ l
    exact .emp (k _ _ ne h)
theorem dvs_but {H H' : Hp} {a : Addr} {D : PyData} (hD : DV H (.ref a) D) (k : But a H H') : ∀ {vs : List V} {ds : List PyData}, DVs H vs ds → PyData.depthAll ds < D.depth → DVs H' vs ds
  | _, _, .nil, _ => .nil
  | _, _, .cons (d := d) (ds := ds) h r, l => by
    have e : PyData.depthAll (d :: ds) = max d.depth (PyData.depthAll ds) := rfl
    exact .cons (dv_but hD k h (by omega)) (dvs_but hD k r (by omega))
end
theorem pts_but {H H' : Hp} {a : Addr} {o : HO} (ha : ∀ xs, H a ≠ some (.tup xs)) (k : But a H H') : ∀ {vs : List V} {l : List Pt}, DVs H vs (l.map ptD) → DVs H' vs (l.map ptD)
  | _, [], h => by
    cases h
    exact .nil
  | _, p :: r, h => by
    cases h with
    | cons h1 h2 =>
      obtain ⟨b, rfl, hb⟩ := dv_pt h1
      exact .cons (.tup (k _ _ (fun e => by subst e; exact ha _ hb) hb) (.cons (.int _) (.cons (.int _) .nil))) (pts_but (o := o) ha k h2)
end U1
set_option Elab.async false
set_option linter.all false
set_option maxRecDepth 100000
set_option maxHeartbeats 16000000
namespace U1
open PySem PySem.Spec PyProof.Rows L2 Nv SX
def lstB : PyData → Bool
  | .list _ => true
  | _ => false
theorem kit_list (d : PyData) : kitB (tyN d) "list" = some (lstB d) := by
  cases d
  · show kitB "NoneType" "list" = some false
    decide +kernel
  · show kitB "bool" "list" = some false
    decide +kernel
  · show kitB "int" "list" = some false
    decide +kernel
  · show kitB "str" "list" = some false
    decide +kernel
  · show kitB "list" "list" = some true
    decide +kernel
  · show kitB "tuple" "list" = some false
    decide +kernel
  · show kitB "dict" "list" = some false
    decide +kernel
/-- the law's own catcher -/
def spCau (K : PySem.W.Frag) : Sp := fun vs H Q _ => ∃ v, vs = [v] ∧
  ((∃ (a : Addr) (xs : List V) (p : Pt) (cs : List Nat), v = .ref a ∧ H a = some (.tup xs) ∧ DVs H xs ((p :: path p cs).map ptD) ∧ OkP p cs ∧ (cs.length ≤ 400 → ∀ L H', Same H H' → H' L = some (.lst [.str "told", .str (S (txtOf p cs))]) → Q (.ref L) H') ∧
     (¬ cs.length ≤ 400 → ∀ L H', Same H H' → H' L = some (.lst [.str "walk", .ref a]) → Q (.ref L) H')) ∨
   (∃ pd, DV H v pd ∧ walkB pd = false ∧ (∀ ds, pd = .tuple ds → ds.length ≤ 1000) ∧ lstB pd = false ∧ ∀ L H', Same H H' → H' L = some (.lst [.str "walk", v]) → L ≠ sysModules → Q (.ref L) H') ∨
   (∃ (a : Addr) (xs : List V) (ds : List PyData), v = .ref a ∧ H a = some (.lst xs) ∧ DVs H xs ds ∧ ds.length ≤ 1000 ∧ ∀ L H', But a H H' → H' a = some (.lst (xs ++ [.str "late"])) → H' L = some (.lst [.str "walk", .ref a]) → Q (.ref L) H') ∨
   (∃ (a C' : Addr), v = .ref a ∧ XIn H a C' ∧ XCls K C' ∧ PySem.W.kitOne K (.ref C') (.type "tuple") = some false ∧ PySem.W.kitOne K (.ref C') (.type "list") = some false ∧ ∀ L H', Same H H' → H' L = some (.lst [.str "walk", .ref a]) → Q (.ref L) H'))
def rIsA (K : PySem.W.Frag) : List V → Hp → VK → Prop := fun xs H Q => rIsi K xs H Q ∨ ∃ (a C : Addr) (c : V) (cv : Value) (b : Bool), xs = [.ref a, c] ∧ XIn H a C ∧ XCls K C ∧ ClsV c cv ∧ PySem.W.kitOne K (.ref C) cv = some b ∧ Q (.bl b) H
theorem call_isA {X : Cx} {K : PySem.W.Frag} (e : X.K = K) : CallR X (.builtin "isinstance") (rIsA K) := by
  subst e
  exact CallR.or call_isi call_isX
theorem pe_appS {X : Cx} {K : PySem.W.Frag} (e0 : X.K = K) {o e : Expr} {apos cpos : Pos} {to : TE} {t : TA} (ho : PE X o to) (ha : PA X [e] t)
    (hbase : attributeBase o "append" X.env (eval o X.env) = eval o X.env := by rfl)
    (hfew : ((backTo cpos (starEach [e] X.env)).all (fun x => !x.1) && (backToKw cpos (keywordEach [] X.env)).all (fun x => x.1.isSome)
      && decide (([e] : List Expr).length + ([] : List Keyword).length + (if ([] : List Keyword).isEmpty then 0 else 1) < 30)) = true := by rfl)
    (hline : (apos.endLine == cpos.line) = true := by rfl) (hs : starEach [e] X.env = (false, eval e X.env) :: starEach [] X.env := by rfl) (hplain : (backTo cpos (starEach [] X.env)).any (·.1) = false := by rfl) :
    PE X (.Call (.Attribute o "append" apos) [e] [] cpos) (tBM K "list" rAppend to t) := by
  subst e0
  exact pe_bm PySem.F.plainAttrs_list PySem.F.slot_list_append PySem.F.type_list_append mt_append ho ha hbase hfew hline hs hplain
def sufs : Stmt → List Stmt
  | .Try _ (.ExceptHandler _ _ b _ :: _) _ _ _ => b
  | _ => []
def cauSuite : List Stmt := sufs ((defBody (top 25)).getD 0 (.Pass ⟨0, 0, 0, 0⟩))
section
variable {P : Program} {w : World} {K : PySem.W.Frag} {mg : Str → Option Value} {base : Heap} {C fI : Addr} {fdI : FuncData}
theorem scCau : FnScope ["_law_value", "_law_found", "e"] ["_law_value"] (defScope (top 25)) := ⟨rfl, rfl, rfl, by decide +kernel, rfl, by decide +kernel, by decide +kernel⟩
theorem ok_caught {f fW : Addr} {fd fdW : FuncData} (F : Fun K "_law_caught" "_law_caught" (top 25) f fd) (X : Ty K mg C fI) (T : Ta mg) (B : Bi mg) (ex : PySem.W.exmOne K (.ref C) (.ref C) = some true)
    (GW : FnOk P w K mg base (L2N.CX P w) 5 fW fdW ["walk"] (spWT K C)) (AW : At K mg "walk_text" fW fdW ["walk"]) : FnOk P w K mg base CX0 6 f fd ["_law_value"] (spCau K) := by
  refine F.ok scCau (fun vs H Q E h => by obtain ⟨v, rfl, _⟩ := h; rfl) (fun cdv A outer s H vs Q E hr h => ?_)
  obtain ⟨v, rfl, h⟩ := h
  refine ⟨_, pss_one (NvN.ps_try_hds (X := (cxOf CX0 P w K mg base ["_law_value", "_law_found", "e"] "_law_caught" (defScope (top 25)) f cdv A outer s H E).nox) (Wout := fun _ _ _ _ => False) rfl rfl scCau.nd takesN0
    (fun W pn xe tk _ => pss_one (ps_ret (pe_lst (pa_cons pe_str (pa_cons (pe_callS GW (hr.mono (by decide)) rfl AW.g AW.k AW.b (L2N.passAt tk) (pa_cons (pv 0) pa_nil)) pa_nil)))))
    (.named (i := 2) (c := .ref C) ⟨rfl, by decide, .inl X.gl⟩ rfl rfl (fun a oe cls d pn hz hf nb =>
      (show PSs (Cx.suite ((cxOf CX0 P w K mg base ["_law_value", "_law_found", "e"] "_law_caught" (defScope (top 25)) f cdv A outer s H E).nox) a ((a, oe) :: pn)) cauSuite _ from pss_cons (ps_set (i := 1) scCau.nd rfl (Or.inl rfl) (pe_xf (C := C) X.xc.fl X.xc.mx.nov hz.zc hf (pv 2)))
      (pss_cons (ps_if (pt_val (pe_callB (call_isA (K := K) rfl) (by rfl) T.isi (by decide +kernel) (pa_cons (pv 0) (pa_cons (pe_bltn (v := .ty "list") (u := .type "list") (by rfl) B.list (by decide +kernel) rfl) pa_nil)))) (pss_one (ps_expr (pe_appS (K := K) rfl (pv 0) (pa_cons pe_str pa_nil)))) pss_nil)
      (pss_one (ps_ret (pe_lst2 (pa_cons pe_str (pa_cons (pv 1) pa_nil)))))))) .nil)), ?_⟩
  generalize hW : wHds _ _ _ _ = W
  refine ⟨_, rfl, v, rfl, ?_⟩
  rcases h with ⟨a, xs, p, cs, rfl, ha, dvs, ok, qg, ql⟩ | ⟨pd, dv, nw, tl, nl, q⟩ | ⟨a, xs, ds, rfl, ha, dvs, ln, q⟩ | ⟨a, C', rfl, xi, xc, kt, kl, q⟩
  · refine .inr ⟨a, xs, p, cs, rfl, ha, dvs, ok, fun h4 H1 s1 => ⟨(by show 2 ≤ sizeLine; decide), fun L nL => qg h4 L _ (fun b o e => stay (s1 b o e) nL) upd_same⟩, fun h4 dx H1 s1 hd => ?_⟩
    obtain ⟨nn, hd⟩ := hd
    rw [← hW]
    refine ⟨true, ex, fun _ e ne => ?_, fun z => nomatch z⟩
    refine ⟨_, rfl, rfl, rfl, dx, _, .ref a, rfl, hd, rfl, ?_⟩
    refine ⟨_, rfl, .inl ⟨_, .ty "list", .type _, .type "list", false, rfl, .ty _, ty_of (.tup (s1 _ _ ha) (dvs.more s1)), kit_ty (by rw [kit_list]; rfl), ?_⟩⟩
    exact ⟨_, rfl, _, rfl, (by show 2 ≤ sizeLine; decide), fun L nL _ => ql h4 L _ (fun b o e => stay (s1 b o e) nL) upd_same⟩
  · refine .inl ⟨some pd, .dat dv, nw, (fun d hd ds e => by cases hd; exact tl ds e), fun dx H1 s1 hd => ?_⟩
    obtain ⟨nn, hd⟩ := hd
    rw [← hW]
    refine ⟨true, ex, fun _ e ne => ?_, fun z => nomatch z⟩
    refine ⟨_, rfl, rfl, rfl, dx, _, v, rfl, hd, rfl, ?_⟩
    refine ⟨_, rfl, .inl ⟨_, .ty "list", .type _, .type "list", false, rfl, .ty _, ty_of (dv.more s1), kit_ty (by rw [kit_list, nl]), ?_⟩⟩
    exact ⟨_, rfl, _, rfl, (by show 2 ≤ sizeLine; decide), fun L nL ns => q L _ (fun b o e => stay (s1 b o e) nL) upd_same ns⟩
  · refine .inl ⟨some (.list ds), .dat (.lst ha dvs), rfl, (fun d hd ds e => by cases hd; cases e), fun dx H1 s1 hd => ?_⟩
    obtain ⟨nn, hd⟩ := hd
    rw [← hW]
    refine ⟨true, ex, fun _ e ne => ?_, fun z => nomatch z⟩
    refine ⟨_, rfl, rfl, rfl, dx, _, .ref a, rfl, hd, rfl, ?_⟩
    refine ⟨_, rfl, .inl ⟨_, .ty "list", .type _, .type "list", true, rfl, .ty _, ty_of (.lst (s1 _ _ ha) (dvs.more s1)), kit_ty (by rw [kit_list]; rfl), ?_⟩⟩
    have lx := dvs.length
    refine ⟨_, rfl, _, rfl, .inl ⟨rfl, _, SqL.of (s1 _ _ ha)⟩, a, xs, _, rfl, rfl, s1 _ _ ha, size1000 (by omega), ?_⟩
    refine ⟨_, rfl, (by show 2 ≤ sizeLine; decide), fun L nL _ => q L _ (fun b o n e => stay (by rw [upd_ne n]; exact s1 b o e) nL) (stay upd_same nL) upd_same⟩
  · refine .inl ⟨none, .exc xi xc kt, rfl, (fun d hd => nomatch hd), fun dx H1 s1 hd => ?_⟩
    obtain ⟨nn, hd⟩ := hd
    rw [← hW]
    refine ⟨true, ex, fun _ e ne => ?_, fun z => nomatch z⟩
    refine ⟨_, rfl, rfl, rfl, dx, _, .ref a, rfl, hd, rfl, ?_⟩
    refine ⟨_, rfl, .inr ⟨_, _, _, .type "list", false, rfl, xi.more s1, xc, .ty _, kl, ?_⟩⟩
    exact ⟨_, rfl, _, rfl, (by show 2 ≤ sizeLine; decide), fun L nL _ => q L _ (fun b o e => stay (s1 b o e) nL) upd_same⟩
end
end U1
set_option Elab.async false
set_option linter.all false
set_option maxRecDepth 100000
set_option maxHeartbeats 16000000
namespace U1
open PySem PySem.Spec PyProof.Rows L2 Nv SX
/-- the script stands at a, apart from the box at p -/
inductive Far (K : PySem.W.Frag) (H : Hp) (a : Addr) (xs : List V) (p : Addr) : Prop
  | wr (h : ∀ H, SqL K H a xs)
  | tr {o : HO} (h : H a = some o) (k : o = .lst xs ∨ ∃ ob, o = .frz ob (.lst xs)) (ne : a ≠ p)
theorem Far.seq {K : PySem.W.Frag} {H : Hp} {a p : Addr} {xs : List V} (f : Far K H a xs p) : SqL K H a xs := by
  rcases f with h | ⟨h, k, _⟩
  · exact h H
  · rcases k with rfl | ⟨ob, rfl⟩
    · exact .inl (.inl h)
    · exact .inl (.inr ⟨ob, h⟩)
theorem Far.of {K : PySem.W.Frag} {H H' : Hp} {a p : Addr} {xs : List V} (h : SqL K H a xs) (hp : H p = none) (k : Same H H') : Far K H' a xs p := by
  rcases h with (h | ⟨o, h⟩) | h
  · exact .tr (k _ _ h) (.inl rfl) (fun e => by rw [e, hp] at h; cases h)
  · exact .tr (k _ _ h) (.inr ⟨o, rfl⟩) (fun e => by rw [e, hp] at h; cases h)
  · exact .wr fun _ => .inr h
theorem Far.but {K : PySem.W.Frag} {H H' : Hp} {a p : Addr} {xs : List V} (f : Far K H a xs p) (k : But p H H') : Far K H' a xs p := by
  rcases f with h | ⟨h, q, ne⟩
  · exact .wr h
  · exact .tr (k _ _ ne h) q ne
/-- past a thing that was made behind H -/
theorem Far.past {K : PySem.W.Frag} {H H1 H2 : Hp} {a p b : Addr} {xs : List V} (f : Far K H a xs p) (n : ∀ o, H b = some o → ∃ ys, o = .tup ys) (k1 : But p H H1) (k2 : But b H1 H2) : Far K H2 a xs p := by
  rcases f with h | ⟨h, q, ne⟩
  · exact .wr h
  · refine .tr (k2 _ _ (fun e => ?_) (k1 _ _ ne h)) q ne
    subst e
    obtain ⟨ys, e⟩ := n _ h
    rcases q with q | ⟨ob, q⟩
    · rw [q] at e
      cases e
    · rw [q] at e
      cases e
theorem box_but {H H' : Hp} {p b : Addr} {m : Int} (h : BoxAt H p m) (ne : b ≠ p) (k : But b H H') : BoxAt H' p m := by
  obtain ⟨b0, b1, b2, h1, h2⟩ := h
  exact ⟨b0, b1, b2, k _ _ (Ne.symm ne) h1, h2⟩
theorem path_take : ∀ (p : Pt) (cs : List Nat) (n : Nat), (p :: path p cs).take (n + 1) = p :: path p (cs.take n)
  | p, [], n => by
    cases n <;> rfl
  | p, c :: r, 0 => rfl
  | p, c :: r, n + 1 => by
    show p :: ((nxt p c :: path (nxt p c) r).take (n + 1)) = _
    rw [path_take (nxt p c) r n]
    rfl
theorem dvs_take {H : Hp} : ∀ {vs : List V} {ds : List PyData} (n : Nat), DVs H vs ds → DVs H (vs.take n) (ds.take n)
  | _, _, 0, _ => .nil
  | _, _, n + 1, .nil => .nil
  | _, _, n + 1, .cons h r => .cons h (dvs_take n r)
theorem dvs_app {H : Hp} : ∀ {vs us : List V} {ds es : List PyData}, DVs H vs ds → DVs H us es → DVs H (vs ++ us) (ds ++ es)
  | _, _, _, _, .nil, k => k
  | _, _, _, _, .cons h r, k => .cons h (dvs_app r k)
theorem shaped_pts : ∀ l : List Pt, PyData.canLayAll0 (l.map ptD) = true ∧ PyData.depthAll (l.map ptD) ≤ 1 ∧ PyData.hasDictAll (l.map ptD) = false
  | [] => ⟨rfl, Nat.zero_le _, rfl⟩
  | p :: r => by
    obtain ⟨h1, h2, h3⟩ := shaped_pts r
    refine ⟨?_, ?_, ?_⟩
    · show ((ptD p).canLay0 && PyData.canLayAll0 (r.map ptD)) = true
      rw [h1]
      rfl
    · show max (ptD p).depth (PyData.depthAll (r.map ptD)) ≤ 1
      have : (ptD p).depth = 1 := rfl
      omega
    · show ((ptD p).hasDict || PyData.hasDictAll (r.map ptD)) = false
      rw [h3]
      rfl
theorem sh_tup (l : List Pt) : SeqAt.shaped (.tuple (l.map ptD)) = true ∧ (PyData.tuple (l.map ptD)).hasDict = false := by
  obtain ⟨h1, h2, h3⟩ := shaped_pts l
  refine ⟨?_, h3⟩
  show (PyData.canLayAll0 (l.map ptD) && decide (PyData.depthAll (l.map ptD) + 1 ≤ 64)) = true
  rw [h1, decide_eq_true (by omega)]
  rfl
theorem sh_walk {z : Str} (hz : PyData.strOk z = true) (l : List Pt) : SeqAt.shaped (.list [.str z, .tuple (l.map ptD)]) = true ∧ (PyData.list [.str z, .tuple (l.map ptD)]).hasDict = false := by
  obtain ⟨h1, h2, h3⟩ := shaped_pts l
  refine ⟨?_, ?_⟩
  · show ((PyData.strOk z && (PyData.canLayAll0 (l.map ptD) && true)) && decide (max 0 (max (PyData.depthAll (l.map ptD) + 1) 0) + 1 ≤ 64)) = true
    rw [hz, h1, decide_eq_true (by omega)]
    rfl
  · show (false || (PyData.hasDictAll (l.map ptD) || false)) = false
    rw [h3]
    rfl
theorem sh_told {z t : Str} (hz : PyData.strOk z = true) (ht : PyData.strOk t = true) : SeqAt.shaped (.list [.str z, .str t]) = true ∧ (PyData.list [.str z, .str t]).hasDict = false := by
  refine ⟨?_, rfl⟩
  show ((PyData.strOk z && (PyData.strOk t && true)) && decide (max 0 (max 0 0) + 1 ≤ 64)) = true
  rw [hz, ht]
  rfl
theorem ok_txt {p : Pt} {cs : List Nat} (ok : OkP p cs) : PyData.strOk (S (txtOf p cs)) = true := by
  show (S (txtOf p cs)).cps.all (· < 0x110000) = true
  rw [Array.all_eq_true']
  intro c hc
  have hc : c ∈ txtOf p cs := Array.mem_toList_iff.mpr hc
  obtain ⟨x0, x1, y0, y1⟩ := onP_b (ok.on p List.mem_cons_self)
  have nl : ∀ n : Fin 31, ∀ c ∈ TL.numL n.val, c < 200 := by decide +kernel
  have d : ∀ c ∈ cs, c < 200 := fun c hc => by
    have := List.all_eq_true.mp ok.d c hc
    rcases dir_cs this with rfl | rfl | rfl | rfl <;> decide
  have : c < 200 := by
    unfold txtOf at hc
    simp only [List.mem_append, List.mem_cons] at hc
    rcases hc with h | h | h | h | h
    · exact nl ⟨p.1.toNat, by omega⟩ c h
    · rw [h]; decide
    · exact nl ⟨p.2.toNat, by omega⟩ c h
    · rw [h]; decide
    · exact d c h
  exact decide_eq_true (by omega)
theorem eqv_self {d : PyData} (h : SeqAt.shaped d = true) : PyData.eqv d d = true := SeqAt.eqv_refl _ (SeqAt.canLay_of_shaped h)
/-- what repr is asked -/
theorem nice_walk {pd : PyData} (o : OddP pd) (n : pd.hasDict = false) : Nice (.list [.str "walk", pd]) := by
  have d5 := o.dp
  have c9 := o.cp
  refine nice_of ⟨⟨by decide, by decide⟩, o.ok, trivial⟩ ?_ ?_ ?_
  · show max 0 (max pd.depth 0) + 1 ≤ 20
    omega
  · show cap (.str "walk") + 2 + (cap pd + 2 + 0) + 2 ≤ 1000000
    have : cap (.str "walk") = 1002 := rfl
    omega
  · show (false || (pd.hasDict || false)) = false
    rw [n]
    rfl
theorem nice_late {ds : List PyData} (o : OddP (.list ds)) : Nice (.list [.str "walk", .list (ds ++ [.str "late"])]) := by
  have n : PyData.hasDictAll ds = false := by
    cases e : PyData.hasDictAll ds with
    | false => rfl
    | true => cases o.dic e
  have d5 : PyData.depthAll ds + 1 ≤ 5 := o.dp
  have c9 : caps ds + 2 ≤ 90000 := o.cp
  have da : ∀ l : List PyData, PyData.depthAll (l ++ [.str "late"]) = PyData.depthAll l := by
    intro l
    induction l with
    | nil => rfl
    | cons x r ih =>
      show max x.depth (PyData.depthAll (r ++ [.str "late"])) = max x.depth (PyData.depthAll r)
      rw [ih]
  have ha : ∀ l : List PyData, PyData.hasDictAll (l ++ [.str "late"]) = PyData.hasDictAll l := by
    intro l
    induction l with
    | nil => rfl
    | cons x r ih =>
      show (x.hasDict || PyData.hasDictAll (r ++ [.str "late"])) = (x.hasDict || PyData.hasDictAll r)
      rw [ih]
  refine nice_of ⟨⟨by decide, by decide⟩, okDs_app o.ok ⟨⟨by decide, by decide⟩, trivial⟩, trivial⟩ ?_ ?_ ?_
  · show max 0 (max (PyData.depthAll (ds ++ [.str "late"]) + 1) 0) + 1 ≤ 20
    rw [da]
    omega
  · show cap (.str "walk") + 2 + ((caps (ds ++ [.str "late"]) + 2) + 2 + 0) + 2 ≤ 1000000
    rw [caps_app]
    have : cap (.str "walk") = 1002 := rfl
    have : caps [.str "late"] = 1004 := rfl
    omega
  · show (false || (PyData.hasDictAll (ds ++ [.str "late"]) || false)) = false
    rw [ha, n]
    rfl
end U1
set_option Elab.async false
set_option linter.all false
set_option maxRecDepth 100000
set_option maxHeartbeats 16000000
namespace U1
open PySem PySem.Spec PyProof.Rows L2 Nv SX
structure Tr (mg : Str → Option Value) : Prop where
  rep : mg "repr" = none
def forBody : Stmt → List Stmt
  | .For _ _ b _ _ => b
  | _ => []
def lawTurn : List Stmt := forBody ((forBody ((defBody (top 27)).getD 0 (.Pass ⟨0, 0, 0, 0⟩))).getD 6 (.Pass ⟨0, 0, 0, 0⟩))
section
variable {P : Program} {w : World} {K : PySem.W.Frag} {mg : Str → Option Value} {base : Heap} {f : Addr} {cdv : Value} {A : Around} {outer : List Env} {s : Shared} {H0 : Hp} {E : XK}
theorem scLaw : FnScope ["_law_script", "_law_k", "_law_box_here", "_law_many", "_law_walk_here", "_law_text_here", "_law_turn", "_law_odd_here", "_law_thing", "_law_found"] ["_law_script"] (defScope (top 27)) := ⟨rfl, rfl, rfl, by decide +kernel, rfl, by decide +kernel, by decide +kernel⟩
abbrev XL (P : Program) (w : World) (K : PySem.W.Frag) (mg : Str → Option Value) (base : Heap) (f : Addr) (cdv : Value) (A : Around) (outer : List Env) (s : Shared) (H0 : Hp) (E : XK) : Cx := (cxOf CX0 P w K mg base ["_law_script", "_law_k", "_law_box_here", "_law_many", "_law_walk_here", "_law_text_here", "_law_turn", "_law_odd_here", "_law_thing", "_law_found"] "law" (defScope (top 27)) f cdv A outer s H0 E).nox
theorem cmp_ok (hr : Room 6 (A.deeper (envOfC "law" (defScope (top 27)) s.heap.objs.size f cdv))) (gd : (A.deeper (envOfC "law" (defScope (top 27)) s.heap.objs.size f cdv)).guards = some []) (R : Tr mg)
    {fC : Addr} {fdC : FuncData} (GC : FnOk P w K mg base CX0 6 fC fdC ["_law_value"] (spCau K)) (AC : At K mg "_law_caught" fC fdC ["_law_value"]) :
    ∃ t, PSs (XL P w K mg base f cdv A outer s H0 E) (lawTurn.drop 1) t ∧ ∀ (D : Ends) (v : V) (pd : PyData) (q0 q1 q2 q3 q4 q5 q6 q8 q9 : Option V) (H : Hp),
      OddP pd → DV H v pd → (∀ H', Same H H' → D.nx [q0, q1, q2, q3, q4, q5, q6, some v, q8, q9] H') →
      (∀ b xs H', v = .ref b → H b = some (.lst xs) → But b H H' → D.nx [q0, q1, q2, q3, q4, q5, q6, some v, q8, q9] H') →
      t D [q0, q1, q2, q3, q4, q5, q6, some v, q8, q9] H := by
  have hu : (A.deeper (envOfC "law" (defScope (top 27)) s.heap.objs.size f cdv)).units + 100 < cLine := by
    have := hr.un
    omega
  refine ⟨_, (pss_one (ps_if (pt_cmpR op_ne (pe_callB (CallR.or (call_reprD gd hu) (call_reprW gd hu)) (by rfl) R.rep (by decide +kernel) (pa_cons (pe_call GC (hr.mono (by decide)) rfl AC.g AC.k AC.b .nil pass0 (pa_cons (pv 7) pa_nil)) pa_nil)) (pe_callB (CallR.or (call_reprD gd hu) (call_reprW gd hu)) (by rfl) R.rep (by decide +kernel) (pa_cons (pe_lst2 (pa_cons pe_str (pa_cons (pv 7) pa_nil))) pa_nil)) (nomark _)) (pss_one (ps_ret pe_bl)) pss_nil)), ?_⟩
  intro D v pd q0 q1 q2 q3 q4 q5 q6 q8 q9 H od dv qs qb
  refine ⟨_, rfl, v, rfl, ?_⟩
  cases hd : pd.hasDict with
  | true =>
    have e := od.dic hd
    subst e
    cases dv with
    | emp hb =>
      rename_i b
      refine .inr (.inl ⟨.dict [], .emp hb, rfl, (fun ds e => nomatch e), rfl, fun L H1 s1 hL ns => ?_⟩)
      refine .inr ⟨L, b, "walk", rfl, hL, s1 _ _ hb, ns, by decide +kernel, by decide +kernel, ?_⟩
      refine ⟨_, rfl, (by show 2 ≤ sizeLine; decide), fun L2 nL2 ns2 => ?_⟩
      refine .inr ⟨L2, b, "walk", rfl, upd_same, stay (s1 _ _ hb) nL2, ns2, by decide +kernel, by decide +kernel, ?_⟩
      refine ⟨rfl, _, rfl, iteNS rfl ?_⟩
      exact qs _ fun b o e => stay (s1 b o e) nL2
  | false =>
    cases hl : lstB pd with
    | false =>
      have nz := nice_walk od hd
      refine .inr (.inl ⟨pd, dv, od.no, od.tl, hl, fun L H1 s1 hL ns => ?_⟩)
      refine .inl ⟨_, _, rfl, .lst hL (.cons (.str _) (.cons (dv.more s1) .nil)), nz, ?_⟩
      refine ⟨_, rfl, (by show 2 ≤ sizeLine; decide), fun L2 nL2 ns2 => ?_⟩
      refine .inl ⟨_, .list [.str "walk", pd], rfl, .lst upd_same (.cons (.str _) (.cons ((dv.more s1).more fun b o e => stay e nL2) .nil)), nz, ?_⟩
      refine ⟨rfl, _, rfl, iteNS rfl ?_⟩
      exact qs _ fun b o e => stay (s1 b o e) nL2
    | true =>
      obtain ⟨ds, rfl⟩ : ∃ ds, pd = .list ds := by
        cases pd with
        | list ds => exact ⟨ds, rfl⟩
        | _ => cases hl
      cases dv with
      | lst hb r =>
        rename_i b ys
        have nz := nice_late od
        refine .inr (.inr (.inl ⟨b, ys, ds, rfl, hb, r, od.ll _ rfl, fun L H1 k1 hb1 hL => ?_⟩))
        have r1 : DVs H1 (ys ++ [.str "late"]) (ds ++ [.str "late"]) := dvs_app (dvs_but (.lst hb r) k1 r (Nat.lt_succ_self _)) (.cons (.str _) .nil)
        have d1 : DV H1 (.ref b) (.list (ds ++ [.str "late"])) := .lst hb1 r1
        refine .inl ⟨_, _, rfl, .lst hL (.cons (.str _) (.cons d1 .nil)), nz, ?_⟩
        refine ⟨_, rfl, (by show 2 ≤ sizeLine; decide), fun L2 nL2 ns2 => ?_⟩
        refine .inl ⟨_, .list [.str "walk", .list (ds ++ [.str "late"])], rfl, .lst upd_same (.cons (.str _) (.cons (d1.more fun b o e => stay e nL2) .nil)), nz, ?_⟩
        refine ⟨rfl, _, rfl, iteNS rfl ?_⟩
        exact qb b ys _ rfl hb fun c o n e => stay (k1 c o n e) nL2
theorem turn_ok (hr : Room 6 (A.deeper (envOfC "law" (defScope (top 27)) s.heap.objs.size f cdv))) (gd : (A.deeper (envOfC "law" (defScope (top 27)) s.heap.objs.size f cdv)).guards = some []) (R : Tr mg)
    {fT : Addr} {fdT : FuncData} (GT : FnOk P w K mg base CX0 1 fT fdT ["_law_box_here", "_law_many"] spTake) (AT : At K mg "_law_take" fT fdT ["_law_box_here", "_law_many"])
    {fO : Addr} {fdO : FuncData} (GO : FnOk P w K mg base CX0 2 fO fdO ["_law_box_here", "_law_walk_here"] spOddH) (AO : At K mg "_law_odd" fO fdO ["_law_box_here", "_law_walk_here"])
    {fC : Addr} {fdC : FuncData} (GC : FnOk P w K mg base CX0 6 fC fdC ["_law_value"] (spCau K)) (AC : At K mg "_law_caught" fC fdC ["_law_value"]) :
    ∃ t, PSs (XL P w K mg base f cdv A outer s H0 E) lawTurn t ∧ ∀ (D : Ends) (a : Addr) (ns : List Int) (p aw : Addr) (m : Nat) (xs : List V) (pt : Pt) (cs : List Nat) (q1 q3 q5 q6 q7 q8 q9 : Option V) (H : Hp),
      OkP pt cs → m ≤ 39000 → Far K H a (ns.map V.int) p → BoxAt H p (m : Int) → H aw = some (.tup xs) → DVs H xs ((pt :: path pt cs).map ptD) →
      (∀ H' q7', Far K H' a (ns.map V.int) p → BoxAt H' p ((m + 10 : Nat) : Int) → H' aw = some (.tup xs) → DVs H' xs ((pt :: path pt cs).map ptD) → D.nx [some (.ref a), q1, some (.ref p), q3, some (.ref aw), q5, q6, q7', q8, q9] H') →
      t D [some (.ref a), q1, some (.ref p), q3, some (.ref aw), q5, q6, q7, q8, q9] H := by
  obtain ⟨t, ht, go⟩ := cmp_ok (P := P) (w := w) (K := K) (mg := mg) (base := base) (f := f) (cdv := cdv) (A := A) (outer := outer) (s := s) (H0 := H0) (E := E) hr gd R GC AC
  refine ⟨_, (pss_cons (ps_set (i := 7) scLaw.nd rfl (Or.inl rfl) (pe_call GO (hr.mono (by decide)) rfl AO.g AO.k AO.b .nil pass0 (pa_cons (pv 2) (pa_cons (pe_ifExp (pt_cmpR op_eq (pe_call GT (hr.mono (by decide)) rfl AT.g AT.k AT.b .nil pass0 (pa_cons (pv 2) (pa_cons pe_int pa_nil))) pe_int (nomark _)) (pv 4) (pe_slice sl_tupW (pv 4) po_none (po_some pe_int))) pa_nil)))) ht), ?_⟩
  intro D a ns p aw m xs pt cs q1 q3 q5 q6 q7 q8 q9 H ok hm far hb haw dvs q
  have l := ok.l
  -- behind the odd thing
  have fin : ∀ (H1 H2 : Hp) (v : V) (pd : PyData), Far K H1 a (ns.map V.int) p → H1 aw = some (.tup xs) → DVs H1 xs ((pt :: path pt cs).map ptD) → OddP pd → DV H2 v pd → (∀ b, v = .ref b → b ≠ p ∧ ∀ o, H1 b = some o → ∃ xs, o = .tup xs) → But p H1 H2 → BoxAt H2 p ((m + 1 + 7 : Nat) : Int) → aw ≠ p → (∀ xs, H1 p ≠ some (.tup xs)) →
      t D [some (.ref a), q1, some (.ref p), q3, some (.ref aw), q5, q6, some v, q8, q9] H2 := by
    intro H1 H2 v pd f1 h1 d1 od dv nb k b2 ne np
    have h2 := k _ _ ne h1
    have d2 := pts_but (o := .tup []) np k d1
    refine go D v pd _ _ _ _ _ _ _ _ _ H2 od dv (fun H3 s3 => ?_) (fun b ys H3 eb hb3 k3 => ?_)
    · exact q H3 _ ((f1.but k).but (but_of s3)) ((b2.more s3).le (by omega)) (s3 _ _ h2) (pts_but (o := .tup []) (a := p) (fun ys e => by obtain ⟨c0, c1, c2, g, _⟩ := b2; rw [g] at e; cases e) (but_of s3) d2)
    · obtain ⟨nbp, nbt⟩ := nb b eb
      refine q H3 _ (f1.past nbt k k3) ((box_but b2 nbp k3).le (by omega)) (k3 _ _ (fun e => by subst e; rw [h2] at hb3; cases hb3) h2) (pts_but (o := .tup []) (fun zs e => by rw [hb3] at e; cases e) k3 d2)
  have bnt : ∀ {H' : Hp} {m' : Int}, BoxAt H' p m' → ∀ xs, H' p ≠ some (.tup xs) := fun b ys e => by
    obtain ⟨c0, c1, c2, g, _⟩ := b
    rw [g] at e
    cases e
  have ne : aw ≠ p := fun e => bnt hb xs (by rw [← e]; exact haw)
  refine ⟨_, rfl, _, rfl, p, (m : Int), 2, rfl, hb, by omega, by decide, by decide, fun r H1 r0 r1 hb1 k1 => ⟨rfl, _, rfl, ?_⟩⟩
  have haw1 := k1 _ _ ne haw
  have dvs1 := pts_but (o := .tup []) (bnt hb) k1 dvs
  have far1 := far.but k1
  have hb1' : BoxAt H1 p ((m + 1 : Nat) : Int) := hb1.le (by omega)
  refine ite2 (fun _ => ?_) (fun _ => ?_)
  · refine ⟨_, rfl, p, aw, m + 1, xs, pt, cs, rfl, hb1', by omega, haw1, dvs1, ok.on, by omega, fun v pd H2 od dv nb k b2 => ?_⟩
    exact fin H1 H2 v pd far1 haw1 dvs1 od dv nb k b2 ne (bnt hb1)
  · refine ⟨_, rfl, _, rfl, aw, xs, rfl, sqt haw1, fun hw => ?_, fun hn L nL => ?_⟩
    · refine ⟨p, aw, m + 1, xs, pt, cs, rfl, hb1', by omega, haw1, dvs1, ok.on, by omega, fun v pd H2 od dv nb k b2 => ?_⟩
      exact fin H1 H2 v pd far1 haw1 dvs1 od dv nb k b2 ne (bnt hb1)
    · have e20 : cutV xs none (some 20) = xs.take 20 := by
        unfold cutV
        have e0 : HT.sIx xs.length 0 none = 0 := rfl
        have e1 : HT.sIx xs.length xs.length (some 20) = min 20 xs.length := rfl
        rw [e0, e1, List.drop_zero, Nat.sub_zero]
        by_cases h : 20 ≤ xs.length
        · rw [Nat.min_eq_left h]
        · rw [Nat.min_eq_right (by omega), List.take_of_length_le (Nat.le_refl _), List.take_of_length_le (by omega)]
      rw [e20] at *
      have st : Same H1 (upd H1 L (.tup (xs.take 20))) := fun b o e => stay e nL
      have pt20 : ((pt :: path pt cs).map ptD).take 20 = (pt :: path pt (cs.take 19)).map ptD := by
        rw [← List.map_take, path_take pt cs 19]
      have d20 : DVs (upd H1 L (.tup (xs.take 20))) (xs.take 20) ((pt :: path pt (cs.take 19)).map ptD) := by
        rw [← pt20]
        exact dvs_take 20 (dvs1.more st)
      have ons : ∀ z ∈ pt :: path pt (cs.take 19), onP z = true := fun z hz => by
        rw [← path_take pt cs 19] at hz
        exact ok.on z (List.mem_of_mem_take hz)
      have hb1s := hb1'.more st
      refine ⟨p, L, m + 1, xs.take 20, pt, cs.take 19, rfl, hb1s, by omega, upd_same, d20, ons, by rw [List.length_take]; omega, fun v pd H2 od dv nb k b2 => ?_⟩
      exact fin (upd H1 L (.tup (xs.take 20))) H2 v pd (far1.but (but_of st)) (st _ _ haw1) (dvs1.more st) od dv nb k b2 ne (bnt hb1s)
end
end U1
set_option Elab.async false
set_option linter.all false
set_option maxRecDepth 100000
set_option maxHeartbeats 16000000
namespace U1
open PySem PySem.Spec PyProof.Rows L2 Nv SX
def lawBody : List Stmt := forBody ((defBody (top 27)).getD 0 (.Pass ⟨0, 0, 0, 0⟩))
section
variable {P : Program} {w : World} {K : PySem.W.Frag} {mg : Str → Option Value} {base : Heap} {f : Addr} {cdv : Value} {A : Around} {outer : List Env} {s : Shared} {H0 : Hp} {E : XK} {Cb : Addr}
/-- behind a cell's walk -/
def After (K : PySem.W.Frag) (a : Addr) (ns : List Int) (p : Addr) (q1 q8 q9 : Option V) (D : Ends) : Prop := ∀ H' (q3 q4 q5 q6 q7 : Option V), Far K H' a (ns.map V.int) p → D.nx [some (.ref a), q1, some (.ref p), q3, q4, q5, q6, q7, q8, q9] H'
theorem tail6 (hr : Room 6 (A.deeper (envOfC "law" (defScope (top 27)) s.heap.objs.size f cdv))) (gd : (A.deeper (envOfC "law" (defScope (top 27)) s.heap.objs.size f cdv)).guards = some []) (R : Tr mg) (B : Tb mg)
    {fT : Addr} {fdT : FuncData} (GT : FnOk P w K mg base CX0 1 fT fdT ["_law_box_here", "_law_many"] spTake) (AT : At K mg "_law_take" fT fdT ["_law_box_here", "_law_many"])
    {fO : Addr} {fdO : FuncData} (GO : FnOk P w K mg base CX0 2 fO fdO ["_law_box_here", "_law_walk_here"] spOddH) (AO : At K mg "_law_odd" fO fdO ["_law_box_here", "_law_walk_here"])
    {fC : Addr} {fdC : FuncData} (GC : FnOk P w K mg base CX0 6 fC fdC ["_law_value"] (spCau K)) (AC : At K mg "_law_caught" fC fdC ["_law_value"])
    {fR : Addr} {fdR : FuncData} (GR : FnOk P w K mg base (L2N.CX P w) 4 fR fdR ["text"] (spRead K Cb)) (AR : At K mg "read_walk" fR fdR ["text"]) :
    ∃ t, PSs (XL P w K mg base f cdv A outer s H0 E) (lawBody.drop 5) t ∧ ∀ (D : Ends) (a : Addr) (ns : List Int) (p aw : Addr) (m : Nat) (many : Int) (xs : List V) (pt : Pt) (cs : List Nat) (q1 q6 q7 q8 q9 : Option V) (H : Hp),
      OkP pt cs → (cs.length : Int) = many - 1 → m ≤ 30000 → Far K H a (ns.map V.int) p → BoxAt H p (m : Int) → H aw = some (.tup xs) → DVs H xs ((pt :: path pt cs).map ptD) → After K a ns p q1 q8 q9 D →
      t D [some (.ref a), q1, some (.ref p), some (.int many), some (.ref aw), some (.str (S (txtOf pt cs))), q6, q7, q8, q9] H := by
  have hu : (A.deeper (envOfC "law" (defScope (top 27)) s.heap.objs.size f cdv)).units + 64 < cLine := by
    have := hr.un
    omega
  obtain ⟨tT, hT, goT⟩ := turn_ok (P := P) (w := w) (K := K) (mg := mg) (base := base) (f := f) (cdv := cdv) (A := A) (outer := outer) (s := s) (H0 := H0) (E := E) hr gd R GT AT GO AO GC AC
  refine ⟨_, (pss_cons (ps_if (pt_cmpR op_gt (pv 3) pe_int (nomark _))
      (pss_one (ps_if (pt_cmpR (op_neD hu) (pe_call GC (hr.mono (by decide)) rfl AC.g AC.k AC.b .nil pass0 (pa_cons (pv 4) pa_nil)) (pe_lst (pa_cons pe_str (pa_cons (pv 4) pa_nil))) (nomark _)) (pss_one (ps_ret pe_bl)) pss_nil))
      (pss_one (ps_if (PW.pt (pw_or (pt_cmpR (op_neD hu) (pe_call GC (hr.mono (by decide)) rfl AC.g AC.k AC.b .nil pass0 (pa_cons (pv 4) pa_nil)) (pe_lst (pa_cons pe_str (pa_cons (pv 5) pa_nil))) (nomark _)) (pw_or1 (pt_cmpR (op_neD hu) (pe_callS GR (hr.mono (by decide)) rfl AR.g AR.k AR.b (L2N.passAt takesN0) (pa_cons (pv 5) pa_nil)) (pv 4) (nomark _))))) (pss_one (ps_ret pe_bl)) pss_nil)))
    (pss_one (ps_for PassesOwn.never rfl (pi_range1 rfl B.rng (pa_cons pe_int pa_nil)) (pg_name (i := 6) scLaw.nd rfl (Or.inl rfl)) hT))), ?_⟩
  intro D a ns p aw m many xs pt cs q1 q6 q7 q8 q9 H ok hl hm far hb haw dvs q
  have l := ok.l
  obtain ⟨sh1, nd1⟩ := sh_walk (z := "walk") (by decide +kernel) (pt :: path pt cs)
  obtain ⟨sh2, nd2⟩ := sh_told (z := "told") (by decide +kernel) (ok_txt ok)
  obtain ⟨sh3, nd3⟩ := sh_tup (pt :: path pt cs)
  have bnt : ∀ {H' : Hp} {m' : Int}, BoxAt H' p m' → ∀ xs, H' p ≠ some (.tup xs) := fun b ys e => by
    obtain ⟨c0, c1, c2, g, _⟩ := b
    rw [g] at e
    cases e
  -- the four turns
  have loop : ∀ H1, Same H H1 → tFor (iRng1 (tCons (tC (V.int 4)) tNil)) (gName 6) tT D [some (.ref a), q1, some (.ref p), some (.int many), some (.ref aw), some (.str (S (txtOf pt cs))), q6, q7, q8, q9] H1 := fun H1 s1 => by
    refine ⟨4, rfl, by decide, by decide, for_range (lo := 0) (n := 4) (fun j σ H' => ∃ o6 o7 : Option V, σ = [some (.ref a), q1, some (.ref p), some (.int many), some (.ref aw), some (.str (S (txtOf pt cs))), o6, o7, q8, q9] ∧ Far K H' a (ns.map V.int) p ∧ BoxAt H' p ((m + 10 * j : Nat) : Int) ∧ H' aw = some (.tup xs) ∧ DVs H' xs ((pt :: path pt cs).map ptD)) ⟨_, _, rfl, far.but (but_of s1), hb.more s1, s1 _ _ haw, dvs.more s1⟩ ?_ ?_⟩
    · rintro j σ H3 hj ⟨o6, o7, rfl, f3, b3, a3, d3⟩
      exact goT _ a ns p aw (m + 10 * j) xs pt cs _ _ _ _ _ _ _ H3 ok (by omega) f3 b3 a3 d3 fun H4 q7' f4 b4 a4 d4 => ⟨_, _, rfl, f4, b4.le (by omega), a4, d4⟩
    · rintro σ H3 ⟨o6, o7, rfl, f3, b3, a3, d3⟩
      exact q H3 _ _ _ _ _ f3
  refine ⟨_, rfl, _, _, rfl, rfl, _, rfl, ite2 (fun c => ?_) (fun c => ?_)⟩
  · have c : 401 < many := of_decide_eq_true c
    refine ⟨_, rfl, .ref aw, rfl, .inl ⟨aw, xs, pt, cs, rfl, haw, dvs, ok, fun h4 => absurd h4 (by omega), fun _ L H1 s1 hL => ?_⟩⟩
    refine ⟨_, rfl, (by show 2 ≤ sizeLine; decide), fun L2 nL2 => ?_⟩
    have s2 : Same H (upd H1 L2 (.lst [.str "walk", .ref aw])) := fun b o e => stay (s1 b o e) nL2
    have da : DV (upd H1 L2 (.lst [.str "walk", .ref aw])) (.ref L) (.list [.str "walk", .tuple ((pt :: path pt cs).map ptD)]) := .lst (stay hL nL2) (.cons (.str _) (.cons (.tup (s2 _ _ haw) (dvs.more s2)) .nil))
    have db : DV (upd H1 L2 (.lst [.str "walk", .ref aw])) (.ref L2) (.list [.str "walk", .tuple ((pt :: path pt cs).map ptD)]) := .lst upd_same (.cons (.str _) (.cons (.tup (s2 _ _ haw) (dvs.more s2)) .nil))
    refine ⟨_, _, dv_dp da nd1, dv_dp db nd1, sh1, sh1, _, rfl, ?_⟩
    rw [eqv_self sh1]
    exact loop _ s2
  · have c : ¬ 401 < many := fun z => c (decide_eq_true z)
    refine ⟨_, rfl, .ref aw, rfl, .inl ⟨aw, xs, pt, cs, rfl, haw, dvs, ok, fun _ L H1 s1 hL => ?_, fun h4 => absurd (show cs.length ≤ 400 by omega) h4⟩⟩
    refine ⟨_, rfl, (by show 2 ≤ sizeLine; decide), fun L2 nL2 => ?_⟩
    have s2 : Same H (upd H1 L2 (.lst [.str "told", .str (S (txtOf pt cs))])) := fun b o e => stay (s1 b o e) nL2
    have da : DV (upd H1 L2 (.lst [.str "told", .str (S (txtOf pt cs))])) (.ref L) (.list [.str "told", .str (S (txtOf pt cs))]) := .lst (stay hL nL2) (.cons (.str _) (.cons (.str _) .nil))
    have db : DV (upd H1 L2 (.lst [.str "told", .str (S (txtOf pt cs))])) (.ref L2) (.list [.str "told", .str (S (txtOf pt cs))]) := .lst upd_same (.cons (.str _) (.cons (.str _) .nil))
    refine ⟨_, _, dv_dp da nd2, dv_dp db nd2, sh2, sh2, _, rfl, ?_⟩
    rw [eqv_self sh2]
    have tl := txt_len ok
    refine ⟨_, rfl, _, some (txtOf pt cs), rfl, .txt _ (by omega), fun lw hlw b ys H3 s3 h3 d3 => ?_, fun hn => ?_⟩
    · have e : some lw = some (pt :: path pt cs) := hlw.symm.trans (read_back ok (by omega))
      cases e
      refine ⟨_, rfl, _, _, dv_dp (.tup h3 d3) nd3, dv_dp (.tup (s3 _ _ (s2 _ _ haw)) ((dvs.more s2).more s3)) nd3, sh3, sh3, _, rfl, ?_⟩
      rw [eqv_self sh3]
      exact loop _ fun b o e => s3 b o (s2 b o e)
    · rw [show askW (some (txtOf pt cs)) = some (pt :: path pt cs) from read_back ok (by omega)] at hn
      cases hn
end
end U1
set_option Elab.async false
set_option linter.all false
set_option maxRecDepth 100000
set_option maxHeartbeats 16000000
namespace U1
open PySem PySem.Spec PyProof.Rows L2 Nv SX
structure Tm (mg : Str → Option Value) : Prop where
  min : mg "min" = none
/-- what the law asks of the exception's class -/
structure Tq (K : PySem.W.Frag) (C : Addr) : Prop where
  cx : XCls K C
  kt : PySem.W.kitOne K (.ref C) (.type "tuple") = some false
  kl : PySem.W.kitOne K (.ref C) (.type "list") = some false
  ob : PySem.W.mroIn K C (.type "object") = some true
  eq : PySem.W.findIn K (.ref C) "__eq__" = some (some (.builtin "object.__eq__"))
def spLaw (K : PySem.W.Frag) : Sp := fun vs H Q _ => ∃ (a : Addr) (ns : List Int), vs = [.ref a] ∧ SqL K H a (ns.map V.int) ∧ ns.length ≤ 63 ∧ ∀ H', Q (.bl true) H'
theorem rng_ok (l : Nat) : -(2 ^ 62) ≤ (if (if (6 : Int) < (l : Int) then (6 : Int) else (l : Int)) > 1 then (if (6 : Int) < (l : Int) then (6 : Int) else (l : Int)) else 1 : Int) ∧ (if (if (6 : Int) < (l : Int) then (6 : Int) else (l : Int)) > 1 then (if (6 : Int) < (l : Int) then (6 : Int) else (l : Int)) else 1 : Int) < 2 ^ 62 ∧
    (if (if (6 : Int) < (l : Int) then (6 : Int) else (l : Int)) > 1 then (if (6 : Int) < (l : Int) then (6 : Int) else (l : Int)) else 1 : Int).toNat ≤ 8 := by
  refine ⟨?_, ?_, ?_⟩ <;> (split <;> split <;> omega)
section
variable {P : Program} {w : World} {K : PySem.W.Frag} {mg : Str → Option Value} {base : Heap} {C Cb fI : Addr} {fdI : FuncData}
theorem ok_law {f : Addr} {fd : FuncData} (F : Fun K "law" "law" (top 27) f fd) (T0 : Txt0 mg) (B : Tb mg) (M : Tm mg) (R : Tr mg) (X : Ty K mg C fI) (Z : Tq K C) (GI : FnOk P w K mg base CX0 1 fI fdI ["self", "value"] (spIni K)) (bI : Binds K fdI ["self", "value"] [])
    {fE : Addr} {fdE : FuncData} (GE : FnOk P w K mg base CX0 1 fE fdE ["_law_script", "_law_k"] (spCell K)) (AE : At K mg "_law_cell_at" fE fdE ["_law_script", "_law_k"]) {fB : Addr} {fdB : FuncData} (GB : FnOk P w K mg base CX0 1 fB fdB ["_law_cell"] spBox) (AB : At K mg "_law_box" fB fdB ["_law_cell"])
    {fT : Addr} {fdT : FuncData} (GT : FnOk P w K mg base CX0 1 fT fdT ["_law_box_here", "_law_many"] spTake) (AT : At K mg "_law_take" fT fdT ["_law_box_here", "_law_many"])
    {fW : Addr} {fdW : FuncData} (GW : FnOk P w K mg base CX0 2 fW fdW ["_law_box_here", "_law_many"] spWalkH) (AW : At K mg "_law_walk" fW fdW ["_law_box_here", "_law_many"])
    {fX : Addr} {fdX : FuncData} (GX : FnOk P w K mg base CX0 2 fX fdX ["_law_walk_here"] spTextH) (AX : At K mg "_law_text" fX fdX ["_law_walk_here"])
    {fO : Addr} {fdO : FuncData} (GO : FnOk P w K mg base CX0 2 fO fdO ["_law_box_here", "_law_walk_here"] spOddH) (AO : At K mg "_law_odd" fO fdO ["_law_box_here", "_law_walk_here"])
    {fC : Addr} {fdC : FuncData} (GC : FnOk P w K mg base CX0 6 fC fdC ["_law_value"] (spCau K)) (AC : At K mg "_law_caught" fC fdC ["_law_value"])
    {fR : Addr} {fdR : FuncData} (GR : FnOk P w K mg base (L2N.CX P w) 4 fR fdR ["text"] (spRead K Cb)) (AR : At K mg "read_walk" fR fdR ["text"]) : FnG P w K mg base 7 f fd ["_law_script"] (spLaw K) := by
  refine FnG.made F scLaw (fun vs H Q E h => ?_) (fun cdv A outer s H vs Q E gd hr h => ?_)
  · obtain ⟨a, ns, rfl, _⟩ := h
    rfl
  · obtain ⟨a, ns, rfl, hS, hlen, q⟩ := h
    have hu : (A.deeper (envOfC "law" (defScope (top 27)) s.heap.objs.size f cdv)).units < cLine := by
      have := hr.un
      omega
    obtain ⟨t6, h6, go6⟩ := tail6 (P := P) (w := w) (K := K) (mg := mg) (base := base) (f := f) (cdv := cdv) (A := A) (outer := outer) (s := s) (H0 := H) (E := E) hr gd R B GT AT GO AO GC AC GR AR
    refine ⟨_, (pss_cons (ps_for PassesOwn.never rfl (pi_range1 rfl B.rng (pa_cons (pe_callB (call_max2 rfl) (by rfl) T0.max (by decide +kernel) (pa_cons pe_int (pa_cons (pe_callB (call_min2 rfl) (by rfl) M.min (by decide +kernel) (pa_cons (pe_callB call_len_seq (by rfl) T0.len PySem.boot_len (pa_cons (pv 0) pa_nil)) (pa_cons pe_int pa_nil))) pa_nil))) pa_nil)) (pg_name (i := 1) scLaw.nd rfl (Or.inl rfl))
        (pss_cons (ps_set (i := 2) scLaw.nd rfl (Or.inl rfl) (pe_call GB (hr.mono (by decide)) rfl AB.g AB.k AB.b .nil pass0 (pa_cons (pe_call GE (hr.mono (by decide)) rfl AE.g AE.k AE.b .nil pass0 (pa_cons (pv 0) (pa_cons (pv 1) pa_nil))) pa_nil)))
        (pss_cons (ps_set (i := 3) scLaw.nd rfl (Or.inl rfl) (pe_op op_add pe_int (pe_call GT (hr.mono (by decide)) rfl AT.g AT.k AT.b .nil pass0 (pa_cons (pv 2) (pa_cons pe_int pa_nil)))))
        (pss_cons (ps_if (pt_cmpR op_eq (pe_call GT (hr.mono (by decide)) rfl AT.g AT.k AT.b .nil pass0 (pa_cons (pv 2) (pa_cons pe_int pa_nil))) pe_int (nomark _)) (pss_one (ps_set (i := 3) scLaw.nd rfl (Or.inl rfl) (pe_op op_add pe_int (pe_call GT (hr.mono (by decide)) rfl AT.g AT.k AT.b .nil pass0 (pa_cons (pv 2) (pa_cons pe_int pa_nil)))))) pss_nil)
        (pss_cons (ps_set (i := 4) scLaw.nd rfl (Or.inl rfl) (pe_call GW (hr.mono (by decide)) rfl AW.g AW.k AW.b .nil pass0 (pa_cons (pv 2) (pa_cons (pv 3) pa_nil))))
        (pss_cons (ps_set (i := 5) scLaw.nd rfl (Or.inl rfl) (pe_call GX (hr.mono (by decide)) rfl AX.g AX.k AX.b .nil pass0 (pa_cons (pv 4) pa_nil)))
        h6))))))
      (pss_cons (ps_set (i := 8) scLaw.nd rfl (Or.inl rfl) (pe_mkx X.xc.mx GI (hr.mono (by decide)) bI (by rfl) X.gl pe_int))
      (pss_cons (ps_set (i := 9) scLaw.nd rfl (Or.inl rfl) (pe_call GC (hr.mono (by decide)) rfl AC.g AC.k AC.b .nil pass0 (pa_cons (pv 8) pa_nil)))
      (pss_one (ps_ret (pe_and (pe_cmpR op_eq (pe_ix ix_list (pv 9) pe_int (fun _ _ => rfl)) pe_str (nomark _)) (pe_one (pe_cmpR (op_eqXX hu) (pe_ix ix_list (pv 9) pe_int (fun _ _ => rfl)) (pv 8) (nomark _))))))))), ?_⟩
    refine ⟨_, rfl, a, _, rfl, .inl hS, _, _, rfl, _, _, rfl, _, rfl, (rng_ok _).1, (rng_ok _).2.1, ?_⟩
    refine for_range (lo := 0) (fun i σ H' => ∃ o1 o2 o3 o4 o5 o6 o7 o8 o9 : Option V, σ = [some (.ref a), o1, o2, o3, o4, o5, o6, o7, o8, o9] ∧ SqL K H' a (ns.map V.int)) ⟨_, _, _, _, _, _, _, _, _, rfl, hS⟩ ?_ ?_
    · rintro i σ H1 hi ⟨o1, o2, o3, o4, o5, o6, o7, o8, o9, rfl, hS1⟩
      have i8 : i < 8 := Nat.lt_of_lt_of_le hi (rng_ok _).2.2
      refine ⟨_, rfl, _, rfl, a, ns, _, rfl, hS1, by omega, by omega, fun n0 => ⟨n0, rfl, fun p H2 np sm2 hb2 => ?_⟩⟩
      have far2 : Far K H2 a (ns.map V.int) p := Far.of hS1 np sm2
      have rest : ∀ (D : Ends) (m : Nat) (many : Int) (q1 q4 q5 q6 q7 : Option V) (H3 : Hp), 2 ≤ many → many ≤ 402 → m ≤ 10 → Far K H3 a (ns.map V.int) p → BoxAt H3 p (m : Int) → After K a ns p q1 o8 o9 D →
          tSeq (tAsg (tCall spWalkH [] E0 (tCons (tVar 2) (tCons (tVar 3) tNil))) (gName 4)) (tSeq (tAsg (tCall spTextH [] E0 (tCons (tVar 4) tNil)) (gName 5)) t6) D [some (.ref a), q1, some (.ref p), some (.int many), q4, q5, q6, q7, o8, o9] H3 := by
        intro D m many q1 q4 q5 q6 q7 H3 h2 h402 hm far3 hb3 af
        refine ⟨_, rfl, _, rfl, p, m, many, rfl, hb3, h2, h402, by omega, fun aw xs pt cs H4 ok hl k4 b4 h4 d4 => ?_⟩
        refine ⟨_, rfl, aw, xs, pt, cs, rfl, h4, d4, ok, fun H5 s5 => ?_⟩
        exact go6 D a ns p aw (m + 42) many xs pt cs _ _ _ _ _ H5 ok hl (by omega) ((far3.but k4).but (but_of s5)) (b4.more s5) (s5 _ _ h4) (d4.more s5) af
      refine ⟨_, rfl, p, 0, 39, rfl, hb2, by decide, by decide, by decide, fun r H3 r0 r1 hb3 k3 => ⟨_, _, rfl, rfl, ?_⟩⟩
      refine ⟨_, rfl, p, 0 + 1, 4, rfl, hb3, by decide, by decide, by decide, fun r2 H4 r20 r21 hb4 k4 => ⟨rfl, _, rfl, ?_⟩⟩
      refine ite2 (fun _ => ?_) (fun _ => ?_)
      · refine ⟨_, rfl, p, 0 + 1 + 1, 3, rfl, hb4, by decide, by decide, by decide, fun r3 H5 r30 r31 hb5 k5 => ⟨_, _, rfl, rfl, ?_⟩⟩
        exact rest _ 3 _ _ _ _ _ _ H5 (by omega) (by omega) (by decide) (((far2.but k3).but k4).but k5) (hb5.le (by decide)) fun H' q3 q4 q5 q6 q7 f' => ⟨_, _, _, _, _, _, _, _, _, rfl, f'.seq⟩
      · exact rest _ 2 _ _ _ _ _ _ H4 (by omega) (by omega) (by decide) ((far2.but k3).but k4) (hb4.le (by decide)) fun H' q3 q4 q5 q6 q7 f' => ⟨_, _, _, _, _, _, _, _, _, rfl, f'.seq⟩
    · rintro σ H1 ⟨o1, o2, o3, o4, o5, o6, o7, o8, o9, rfl, _⟩
      refine fun ax dx n na nd ne => ?_
      have xin : XIn (upd (upd H1 dx (exd dx (xf n (.int 1)))) ax (exo ax C (some dx))) ax C := XIn.of_made upd_same (by rw [upd_ne ne]; exact upd_same)
      refine ⟨_, rfl, .ref ax, rfl, .inr (.inr (.inr ⟨ax, C, rfl, xin, Z.cx, Z.kt, Z.kl, fun L H2 s2 hL => ?_⟩))⟩
      have sL := SqL.of (K := K) hL
      refine ⟨_, rfl, L, _, 0, _, rfl, rfl, sL, rfl, rfl, ?_⟩
      refine ⟨_, rfl, ?_⟩
      refine ⟨_, rfl, L, _, 1, _, rfl, rfl, sL, rfl, _, rfl, ax, C, rfl, rfl, xin.more s2, Z.ob, Z.eq, ?_⟩
      exact q H2
end
end U1
set_option Elab.async false
set_option linter.all false
set_option maxRecDepth 100000
set_option maxHeartbeats 16000000
namespace U1
open PySem PySem.Spec PyProof.Rows L2 Nv SX
def intK (u : Option (Option Value)) (i : Int) : Bool := match u with
  | some (some (.int j _)) => decide (j = i)
  | _ => false
theorem intK_of {u : Option (Option Value)} {i : Int} (h : intK u i = true) : ∃ t, u = some (some (.int i t)) := by
  unfold intK at h
  split at h
  · exact ⟨_, by rw [of_decide_eq_true h]⟩
  · cases h
def tabB (K : PySem.W.Frag) (fI C Cb : Addr) : Bool := metaB K fI && (classB K C fI && (classB K Cb fI && (PySem.W.exmOne K (.ref C) (.ref C) == some true && (PySem.W.kitOne K (.ref C) (.type "tuple") == some false && PySem.W.kitOne K (.ref C) (.type "list") == some false))))

theorem all_mk {P : Program} {w : World} {K : PySem.W.Frag} {h : Heap} {mg : Str → Option Value} {fa fI C0 C1 C2 aS aW f0 f1 f2 f3 f4 f5 f6 f7 f8 f9 f10 f11 f12 f13 f14 f15 f16 : Addr} (X : K.In h) (G : h.Ns mainGlobals mg) (hfa : mg "law" = some (.ref fa))
    {od0 an0 od1 an1 od2 an2 od3 an3 od4 an4 od5 an5 od6 an6 od7 an7 od8 an8 od9 an9 od10 an10 od11 an11 od12 an12 od13 an13 od14 an14 od15 an15 od16 an16 odI anI : Option Addr} {sl0 sl1 sl2 sl3 sl4 sl5 sl6 sl7 sl8 sl9 sl10 sl11 sl12 sl13 sl14 sl15 sl16 slI : Array (Option Value)} {oc0 kV0 dc0 pm0 cd0 ct0 oc1 kV1 dc1 pm1 cd1 ct1 oc2 kV2 dc2 pm2 cd2 ct2 oc3 kV3 dc3 pm3 cd3 ct3 oc4 kV4 dc4 pm4 cd4 ct4 oc5 kV5 dc5 pm5 cd5 ct5 oc6 kV6 dc6 pm6 cd6 ct6 oc7 kV7 dc7 pm7 cd7 ct7 oc8 kV8 dc8 pm8 cd8 ct8 oc9 kV9 dc9 pm9 cd9 ct9 oc10 kV10 dc10 pm10 cd10 ct10 oc11 kV11 dc11 pm11 cd11 ct11 oc12 kV12 dc12 pm12 cd12 ct12 oc13 kV13 dc13 pm13 cd13 ct13 oc14 kV14 dc14 pm14 cd14 ct14 oc15 kV15 dc15 pm15 cd15 ct15 oc16 kV16 dc16 pm16 cd16 ct16 ocI kVI dcI pmI cdI ctI : Value}
    (e0 : PySem.W.nsIn K mainGlobals "InvalidWalk" = some (some (.ref C0)))
    (e1 : PySem.W.nsIn K mainGlobals "NevercrossedError" = some (some (.ref C1)))
    (e2 : PySem.W.nsIn K mainGlobals "BadText" = some (some (.ref C2)))
    (aI : PySem.W.findIn K (.ref C1) "__init__" = some (some (.ref fI))) (lI : K.lookup fI = some ⟨ocI, odI, .func (PySem.W.fnOf "__init__" "NevercrossedError.__init__" (defArgs sIni) (defBody sIni) (defScope sIni) .none kVI dcI pmI anI cdI ctI), slI⟩) (cI : PySem.W.codeIn K cdI "NevercrossedError.__init__" = true) (kI : PySem.W.keepIn K (.ref fI) = true)
    (a0 : PySem.W.nsIn K mainGlobals "is_integer" = some (some (.ref f0))) (l0 : K.lookup f0 = some ⟨oc0, od0, .func (PySem.W.fnOf "is_integer" "is_integer" (defArgs (top 8)) (defBody (top 8)) (defScope (top 8)) .none kV0 dc0 pm0 an0 cd0 ct0), sl0⟩) (c0 : PySem.W.codeIn K cd0 "is_integer" = true) (k0 : PySem.W.keepIn K (.ref f0) = true)
    (a1 : PySem.W.nsIn K mainGlobals "is_point" = some (some (.ref f1))) (l1 : K.lookup f1 = some ⟨oc1, od1, .func (PySem.W.fnOf "is_point" "is_point" (defArgs (top 9)) (defBody (top 9)) (defScope (top 9)) .none kV1 dc1 pm1 an1 cd1 ct1), sl1⟩) (c1 : PySem.W.codeIn K cd1 "is_point" = true) (k1 : PySem.W.keepIn K (.ref f1) = true)
    (a2 : PySem.W.nsIn K mainGlobals "is_walk" = some (some (.ref f2))) (l2 : K.lookup f2 = some ⟨oc2, od2, .func (PySem.W.fnOf "is_walk" "is_walk" (defArgs (top 10)) (defBody (top 10)) (defScope (top 10)) .none kV2 dc2 pm2 an2 cd2 ct2), sl2⟩) (c2 : PySem.W.codeIn K cd2 "is_walk" = true) (k2 : PySem.W.keepIn K (.ref f2) = true)
    (a3 : PySem.W.nsIn K mainGlobals "way_between" = some (some (.ref f3))) (l3 : K.lookup f3 = some ⟨oc3, od3, .func (PySem.W.fnOf "way_between" "way_between" (defArgs (top 11)) (defBody (top 11)) (defScope (top 11)) .none kV3 dc3 pm3 an3 cd3 ct3), sl3⟩) (c3 : PySem.W.codeIn K cd3 "way_between" = true) (k3 : PySem.W.keepIn K (.ref f3) = true)
    (a4 : PySem.W.nsIn K mainGlobals "walk_text" = some (some (.ref f4))) (l4 : K.lookup f4 = some ⟨oc4, od4, .func (PySem.W.fnOf "walk_text" "walk_text" (defArgs (top 14)) (defBody (top 14)) (defScope (top 14)) .none kV4 dc4 pm4 an4 cd4 ct4), sl4⟩) (c4 : PySem.W.codeIn K cd4 "walk_text" = true) (k4 : PySem.W.keepIn K (.ref f4) = true)
    (a5 : PySem.W.nsIn K mainGlobals "read_walk" = some (some (.ref f5))) (l5 : K.lookup f5 = some ⟨oc5, od5, .func (PySem.W.fnOf "read_walk" "read_walk" (defArgs (top 15)) (defBody (top 15)) (defScope (top 15)) .none kV5 dc5 pm5 an5 cd5 ct5), sl5⟩) (c5 : PySem.W.codeIn K cd5 "read_walk" = true) (k5 : PySem.W.keepIn K (.ref f5) = true)
    (a6 : PySem.W.nsIn K mainGlobals "_read_point" = some (some (.ref f6))) (l6 : K.lookup f6 = some ⟨oc6, od6, .func (PySem.W.fnOf "_read_point" "_read_point" (defArgs (top 16)) (defBody (top 16)) (defScope (top 16)) .none kV6 dc6 pm6 an6 cd6 ct6), sl6⟩) (c6 : PySem.W.codeIn K cd6 "_read_point" = true) (k6 : PySem.W.keepIn K (.ref f6) = true)
    (a7 : PySem.W.nsIn K mainGlobals "_is_coordinate" = some (some (.ref f7))) (l7 : K.lookup f7 = some ⟨oc7, od7, .func (PySem.W.fnOf "_is_coordinate" "_is_coordinate" (defArgs (top 17)) (defBody (top 17)) (defScope (top 17)) .none kV7 dc7 pm7 an7 cd7 ct7), sl7⟩) (c7 : PySem.W.codeIn K cd7 "_is_coordinate" = true) (k7 : PySem.W.keepIn K (.ref f7) = true)
    (a8 : PySem.W.nsIn K mainGlobals "_law_cell_at" = some (some (.ref f8))) (l8 : K.lookup f8 = some ⟨oc8, od8, .func (PySem.W.fnOf "_law_cell_at" "_law_cell_at" (defArgs sCell) (defBody sCell) (defScope sCell) .none kV8 dc8 pm8 an8 cd8 ct8), sl8⟩) (c8 : PySem.W.codeIn K cd8 "_law_cell_at" = true) (k8 : PySem.W.keepIn K (.ref f8) = true)
    (a9 : PySem.W.nsIn K mainGlobals "_law_box" = some (some (.ref f9))) (l9 : K.lookup f9 = some ⟨oc9, od9, .func (PySem.W.fnOf "_law_box" "_law_box" (defArgs sBox) (defBody sBox) (defScope sBox) .none kV9 dc9 pm9 an9 cd9 ct9), sl9⟩) (c9 : PySem.W.codeIn K cd9 "_law_box" = true) (k9 : PySem.W.keepIn K (.ref f9) = true)
    (a10 : PySem.W.nsIn K mainGlobals "_law_take" = some (some (.ref f10))) (l10 : K.lookup f10 = some ⟨oc10, od10, .func (PySem.W.fnOf "_law_take" "_law_take" (defArgs sTake) (defBody sTake) (defScope sTake) .none kV10 dc10 pm10 an10 cd10 ct10), sl10⟩) (c10 : PySem.W.codeIn K cd10 "_law_take" = true) (k10 : PySem.W.keepIn K (.ref f10) = true)
    (a11 : PySem.W.nsIn K mainGlobals "_law_step" = some (some (.ref f11))) (l11 : K.lookup f11 = some ⟨oc11, od11, .func (PySem.W.fnOf "_law_step" "_law_step" (defArgs (top 22)) (defBody (top 22)) (defScope (top 22)) .none kV11 dc11 pm11 an11 cd11 ct11), sl11⟩) (c11 : PySem.W.codeIn K cd11 "_law_step" = true) (k11 : PySem.W.keepIn K (.ref f11) = true)
    (a12 : PySem.W.nsIn K mainGlobals "_law_walk" = some (some (.ref f12))) (l12 : K.lookup f12 = some ⟨oc12, od12, .func (PySem.W.fnOf "_law_walk" "_law_walk" (defArgs (top 23)) (defBody (top 23)) (defScope (top 23)) .none kV12 dc12 pm12 an12 cd12 ct12), sl12⟩) (c12 : PySem.W.codeIn K cd12 "_law_walk" = true) (k12 : PySem.W.keepIn K (.ref f12) = true)
    (a13 : PySem.W.nsIn K mainGlobals "_law_text" = some (some (.ref f13))) (l13 : K.lookup f13 = some ⟨oc13, od13, .func (PySem.W.fnOf "_law_text" "_law_text" (defArgs (top 24)) (defBody (top 24)) (defScope (top 24)) .none kV13 dc13 pm13 an13 cd13 ct13), sl13⟩) (c13 : PySem.W.codeIn K cd13 "_law_text" = true) (k13 : PySem.W.keepIn K (.ref f13) = true)
    (a14 : PySem.W.nsIn K mainGlobals "_law_caught" = some (some (.ref f14))) (l14 : K.lookup f14 = some ⟨oc14, od14, .func (PySem.W.fnOf "_law_caught" "_law_caught" (defArgs (top 25)) (defBody (top 25)) (defScope (top 25)) .none kV14 dc14 pm14 an14 cd14 ct14), sl14⟩) (c14 : PySem.W.codeIn K cd14 "_law_caught" = true) (k14 : PySem.W.keepIn K (.ref f14) = true)
    (a15 : PySem.W.nsIn K mainGlobals "_law_odd" = some (some (.ref f15))) (l15 : K.lookup f15 = some ⟨oc15, od15, .func (PySem.W.fnOf "_law_odd" "_law_odd" (defArgs (top 26)) (defBody (top 26)) (defScope (top 26)) .none kV15 dc15 pm15 an15 cd15 ct15), sl15⟩) (c15 : PySem.W.codeIn K cd15 "_law_odd" = true) (k15 : PySem.W.keepIn K (.ref f15) = true)
    (a16 : PySem.W.nsIn K mainGlobals "law" = some (some (.ref f16))) (l16 : K.lookup f16 = some ⟨oc16, od16, .func (PySem.W.fnOf "law" "law" (defArgs (top 27)) (defBody (top 27)) (defScope (top 27)) .none kV16 dc16 pm16 an16 cd16 ct16), sl16⟩) (c16 : PySem.W.codeIn K cd16 "law" = true) (k16 : PySem.W.keepIn K (.ref f16) = true)
    (z_isinstance : PySem.W.nsIn K mainGlobals "isinstance" = some none)
    (z_int : PySem.W.nsIn K mainGlobals "int" = some none)
    (z_bool : PySem.W.nsIn K mainGlobals "bool" = some none)
    (z_tuple : PySem.W.nsIn K mainGlobals "tuple" = some none)
    (z_str : PySem.W.nsIn K mainGlobals "str" = some none)
    (z_len : PySem.W.nsIn K mainGlobals "len" = some none)
    (z_min : PySem.W.nsIn K mainGlobals "min" = some none)
    (z_max : PySem.W.nsIn K mainGlobals "max" = some none)
    (z_range : PySem.W.nsIn K mainGlobals "range" = some none)
    (z_all : PySem.W.nsIn K mainGlobals "all" = some none)
    (z_zip : PySem.W.nsIn K mainGlobals "zip" = some none)
    (z_abs : PySem.W.nsIn K mainGlobals "abs" = some none)
    (z_list : PySem.W.nsIn K mainGlobals "list" = some none)
    (z_repr : PySem.W.nsIn K mainGlobals "repr" = some none)
    (tL : intK (PySem.W.nsIn K mainGlobals "LAST") 30 = true) (tM : intK (PySem.W.nsIn K mainGlobals "MOST_POINTS") 401 = true)
    (gS : PySem.W.nsIn K mainGlobals "STEPS" = some (some (.ref aS))) (dS : He.dicW K aS = some (He.keysIn w.params ["r", "u", "l", "d"]))
    (sr : pairK K (PySem.W.nsIn K aS "r") 1 0 = true) (su : pairK K (PySem.W.nsIn K aS "u") 0 1 = true) (sl : pairK K (PySem.W.nsIn K aS "l") (-1) 0 = true) (sd : pairK K (PySem.W.nsIn K aS "d") 0 (-1) = true)
    (gW : PySem.W.nsIn K mainGlobals "WAYS" = some (some (.ref aW))) (dW : wayTab K aW = true) (qE : PySem.W.findIn K (.ref C0) "__eq__" = some (some (.builtin "object.__eq__")))
    (tb : tabB K fI C0 C2 = true) :
    ∃ fd : FuncData, (∀ (s : Shared) (v : Value), BindsTo s fd ⟨[v], []⟩ [("_law_script", v)]) ∧ ∀ base : Heap, K.In base → base.Ns mainGlobals mg → FnG P w K mg base 7 fa fd ["_law_script"] (spLaw K) := by
  have e := hfa.symm.trans (PySem.W.mg_of X G a16)
  cases e
  have m_isinstance := PySem.W.mg_none_of X G z_isinstance
  have m_int := PySem.W.mg_none_of X G z_int
  have m_bool := PySem.W.mg_none_of X G z_bool
  have m_tuple := PySem.W.mg_none_of X G z_tuple
  have m_str := PySem.W.mg_none_of X G z_str
  have m_len := PySem.W.mg_none_of X G z_len
  have m_min := PySem.W.mg_none_of X G z_min
  have m_max := PySem.W.mg_none_of X G z_max
  have m_range := PySem.W.mg_none_of X G z_range
  have m_all := PySem.W.mg_none_of X G z_all
  have m_zip := PySem.W.mg_none_of X G z_zip
  have m_abs := PySem.W.mg_none_of X G z_abs
  have m_list := PySem.W.mg_none_of X G z_list
  have m_repr := PySem.W.mg_none_of X G z_repr
  unfold tabB at tb
  simp only [Bool.and_eq_true, beq_iff_eq] at tb
  obtain ⟨tb1, tb2, tb3, tb4, tb5, tb6⟩ := tb
  have Xt : Ty K mg C0 fI := ⟨class_of tb2 tb1, PySem.W.mg_of X G e0⟩
  have Xb : Tx K mg C2 fI := ⟨class_of tb3 tb1, PySem.W.mg_of X G e2⟩
  have Zq : Tq K C0 := ⟨Xt.xc.cl, tb5, tb6, Xt.xc.cl.ob, qE⟩
  obtain ⟨t30, hL⟩ := intK_of tL
  obtain ⟨t401, hM⟩ := intK_of tM
  have T0 : Txt0 mg := ⟨m_len, m_max⟩
  have Tt : Ta mg := ⟨m_isinstance, m_int, m_bool, m_tuple, m_str, m_len, t30, PySem.W.mg_of X G hL⟩
  have U : Tk mg := ⟨⟨t401, PySem.W.mg_of X G hM⟩, m_all⟩
  have M : Tm mg := ⟨m_min⟩
  have B : Tb mg := ⟨m_range⟩
  have Zz : Tz mg := ⟨m_zip⟩
  have Bb : Bi mg := ⟨m_range, m_tuple, m_len, m_str, m_abs, m_list⟩
  have R : Tr mg := ⟨m_repr⟩
  have Wy : Ways K mg aW := ⟨PySem.W.mg_of X G gW, dW⟩
  have St : Steps K w mg aS := ⟨PySem.W.mg_of X G gS, dS⟩
  have S2 : Steps2 K aS := ⟨sr, su, sl, sd⟩
  have FI := fun_mk (st := sIni) lI cI kI
  have bI := FI.binds (ps := ["self", "value"]) fun _ _ _ _ _ _ us hl => match us, hl with | [_, _], _ => rfl
  have F0 := fun_mk (st := (top 8)) l0 c0 k0
  have b0 := F0.binds (ps := ["value"]) fun _ _ _ _ _ _ us hl => match us, hl with | [_], _ => rfl
  have A0 : At K mg "is_integer" f0 _ ["value"] := ⟨PySem.W.mg_of X G a0, k0, b0⟩
  have F1 := fun_mk (st := (top 9)) l1 c1 k1
  have b1 := F1.binds (ps := ["value"]) fun _ _ _ _ _ _ us hl => match us, hl with | [_], _ => rfl
  have A1 : At K mg "is_point" f1 _ ["value"] := ⟨PySem.W.mg_of X G a1, k1, b1⟩
  have F2 := fun_mk (st := (top 10)) l2 c2 k2
  have b2 := F2.binds (ps := ["value"]) fun _ _ _ _ _ _ us hl => match us, hl with | [_], _ => rfl
  have A2 : At K mg "is_walk" f2 _ ["value"] := ⟨PySem.W.mg_of X G a2, k2, b2⟩
  have F3 := fun_mk (st := (top 11)) l3 c3 k3
  have b3 := F3.binds (ps := ["point", "other"]) fun _ _ _ _ _ _ us hl => match us, hl with | [_, _], _ => rfl
  have A3 : At K mg "way_between" f3 _ ["point", "other"] := ⟨PySem.W.mg_of X G a3, k3, b3⟩
  have F4 := fun_mk (st := (top 14)) l4 c4 k4
  have b4 := F4.binds (ps := ["walk"]) fun _ _ _ _ _ _ us hl => match us, hl with | [_], _ => rfl
  have A4 : At K mg "walk_text" f4 _ ["walk"] := ⟨PySem.W.mg_of X G a4, k4, b4⟩
  have F5 := fun_mk (st := (top 15)) l5 c5 k5
  have b5 := F5.binds (ps := ["text"]) fun _ _ _ _ _ _ us hl => match us, hl with | [_], _ => rfl
  have A5 : At K mg "read_walk" f5 _ ["text"] := ⟨PySem.W.mg_of X G a5, k5, b5⟩
  have F6 := fun_mk (st := (top 16)) l6 c6 k6
  have b6 := F6.binds (ps := ["text"]) fun _ _ _ _ _ _ us hl => match us, hl with | [_], _ => rfl
  have A6 : At K mg "_read_point" f6 _ ["text"] := ⟨PySem.W.mg_of X G a6, k6, b6⟩
  have F7 := fun_mk (st := (top 17)) l7 c7 k7
  have b7 := F7.binds (ps := ["word"]) fun _ _ _ _ _ _ us hl => match us, hl with | [_], _ => rfl
  have A7 : At K mg "_is_coordinate" f7 _ ["word"] := ⟨PySem.W.mg_of X G a7, k7, b7⟩
  have F8 := fun_mk (st := sCell) l8 c8 k8
  have b8 := F8.binds (ps := ["_law_script", "_law_k"]) fun _ _ _ _ _ _ us hl => match us, hl with | [_, _], _ => rfl
  have A8 : At K mg "_law_cell_at" f8 _ ["_law_script", "_law_k"] := ⟨PySem.W.mg_of X G a8, k8, b8⟩
  have F9 := fun_mk (st := sBox) l9 c9 k9
  have b9 := F9.binds (ps := ["_law_cell"]) fun _ _ _ _ _ _ us hl => match us, hl with | [_], _ => rfl
  have A9 : At K mg "_law_box" f9 _ ["_law_cell"] := ⟨PySem.W.mg_of X G a9, k9, b9⟩
  have F10 := fun_mk (st := sTake) l10 c10 k10
  have b10 := F10.binds (ps := ["_law_box_here", "_law_many"]) fun _ _ _ _ _ _ us hl => match us, hl with | [_, _], _ => rfl
  have A10 : At K mg "_law_take" f10 _ ["_law_box_here", "_law_many"] := ⟨PySem.W.mg_of X G a10, k10, b10⟩
  have F11 := fun_mk (st := (top 22)) l11 c11 k11
  have b11 := F11.binds (ps := ["_law_point", "_law_sign"]) fun _ _ _ _ _ _ us hl => match us, hl with | [_, _], _ => rfl
  have A11 : At K mg "_law_step" f11 _ ["_law_point", "_law_sign"] := ⟨PySem.W.mg_of X G a11, k11, b11⟩
  have F12 := fun_mk (st := (top 23)) l12 c12 k12
  have b12 := F12.binds (ps := ["_law_box_here", "_law_many"]) fun _ _ _ _ _ _ us hl => match us, hl with | [_, _], _ => rfl
  have A12 : At K mg "_law_walk" f12 _ ["_law_box_here", "_law_many"] := ⟨PySem.W.mg_of X G a12, k12, b12⟩
  have F13 := fun_mk (st := (top 24)) l13 c13 k13
  have b13 := F13.binds (ps := ["_law_walk_here"]) fun _ _ _ _ _ _ us hl => match us, hl with | [_], _ => rfl
  have A13 : At K mg "_law_text" f13 _ ["_law_walk_here"] := ⟨PySem.W.mg_of X G a13, k13, b13⟩
  have F14 := fun_mk (st := (top 25)) l14 c14 k14
  have b14 := F14.binds (ps := ["_law_value"]) fun _ _ _ _ _ _ us hl => match us, hl with | [_], _ => rfl
  have A14 : At K mg "_law_caught" f14 _ ["_law_value"] := ⟨PySem.W.mg_of X G a14, k14, b14⟩
  have F15 := fun_mk (st := (top 26)) l15 c15 k15
  have b15 := F15.binds (ps := ["_law_box_here", "_law_walk_here"]) fun _ _ _ _ _ _ us hl => match us, hl with | [_, _], _ => rfl
  have A15 : At K mg "_law_odd" f15 _ ["_law_box_here", "_law_walk_here"] := ⟨PySem.W.mg_of X G a15, k15, b15⟩
  have F16 := fun_mk (st := (top 27)) l16 c16 k16
  refine ⟨PySem.W.fnOf "law" "law" (defArgs (top 27)) (defBody (top 27)) (defScope (top 27)) .none kV16 dc16 pm16 an16 cd16 ct16, fun s v => .of_eq rfl, fun base _ _ => ?_⟩
  have Gini := ok_ini (P := P) (w := w) (mg := mg) (base := base) FI
  have Gint := ok_isint (P := P) (w := w) (base := base) F0 Tt
  have Gpt := ok_ispoint F1 Tt Gint A0
  have Gwy := ok_way (P := P) (w := w) (base := base) F3 Wy
  have Giw := ok_iswalk F2 Tt U Zz Gpt A1 Gwy A3
  have Gwt := ok_wtext F4 Tt U Zz Xt Gini bI Giw A2 Gwy A3
  have Gco := ok_coord (P := P) (w := w) (base := base) F7 Tt
  have Grp := ok_readp F6 Tt Gco A7
  have Grw := ok_readw F5 Tt U Xb Gini bI St S2 Grp A6 Gpt A1
  have Gtk := ok_take (P := P) (w := w) (base := base) F10 Tt
  have Gtk2 := fn_weak Gtk take_weak
  have Gst := ok_stepD (P := P) (w := w) (mg := mg) (base := base) F11
  have Gwk := fn_weak (ok_walkD F12 Bb Gtk2 A10 Gst A11) walk_weak
  have Gtx := fn_weak (ok_textD F13 Bb Gst A11) text_weak
  have God := fn_weak (ok_oddD F15 Bb Gtk2 A10) odd_weak
  have Gca := ok_caught F14 Xt Tt Bb tb4 Gwt A4
  exact ok_law F16 T0 B M R Xt Zq Gini bI (ok_cell F8 T0) A8 (ok_box F9 T0) A9 Gtk A10 Gwk A12 Gtx A13 God A15 Gca A14 Grw A5
end U1
open PySem PySem.W PyProof.Rows
set_option Elab.async false
set_option maxRecDepth 100000 in
set_option maxHeartbeats 0 in
theorem PySem.Challenge.cw_nevercrossed_k10_walks_as_texts_holds : PySem.Challenge.rw_nevercrossed_k10_walks_as_texts.Holds := by
  w_on; o_law; k_head; (case hw => w_witness2)
  k_fill
  refine Nv.walkG (l := PySem.Challenge.rw_nevercrossed_k10_walks_as_texts) (n := 63) (k := 7) (x := "_law_script") (sp := U1.spLaw) rfl (by decide) rfl ⟨rfl, by decide, by decide⟩ (fun w h Y => PySem.W.kIn_of Y) ?F (fun K H a ns hl hS => ⟨a, ns, rfl, hS, hl, fun _ => rfl⟩)
  case F =>
    intro w mg fa h KX G hmg
    refine' U1.all_mk KX G hmg ?h_e0 ?h_e1 ?h_e2 ?h_aI ?h_lI ?h_cI ?h_kI ?h_a0 ?h_l0 ?h_c0 ?h_k0 ?h_a1 ?h_l1 ?h_c1 ?h_k1 ?h_a2 ?h_l2 ?h_c2 ?h_k2 ?h_a3 ?h_l3 ?h_c3 ?h_k3 ?h_a4 ?h_l4 ?h_c4 ?h_k4 ?h_a5 ?h_l5 ?h_c5 ?h_k5 ?h_a6 ?h_l6 ?h_c6 ?h_k6 ?h_a7 ?h_l7 ?h_c7 ?h_k7 ?h_a8 ?h_l8 ?h_c8 ?h_k8 ?h_a9 ?h_l9 ?h_c9 ?h_k9 ?h_a10 ?h_l10 ?h_c10 ?h_k10 ?h_a11 ?h_l11 ?h_c11 ?h_k11 ?h_a12 ?h_l12 ?h_c12 ?h_k12 ?h_a13 ?h_l13 ?h_c13 ?h_k13 ?h_a14 ?h_l14 ?h_c14 ?h_k14 ?h_a15 ?h_l15 ?h_c15 ?h_k15 ?h_a16 ?h_l16 ?h_c16 ?h_k16 ?h_z_isinstance ?h_z_int ?h_z_bool ?h_z_tuple ?h_z_str ?h_z_len ?h_z_min ?h_z_max ?h_z_range ?h_z_all ?h_z_zip ?h_z_abs ?h_z_list ?h_z_repr ?h_tL ?h_tM ?h_gS ?h_dS ?h_sr ?h_su ?h_sl ?h_sd ?h_gW ?h_dW ?h_qE ?h_tb
    (case h_e0 => k_is)
    (case h_e1 => k_is)
    (case h_e2 => k_is)
    (case h_aI => k_is)
    (case h_lI => k_is)
    (case h_cI => k_is)
    (case h_kI => k_is)
    (case h_a0 => k_is)
    (case h_l0 => k_is)
    (case h_c0 => k_is)
    (case h_k0 => k_is)
    (case h_a1 => k_is)
    (case h_l1 => k_is)
    (case h_c1 => k_is)
    (case h_k1 => k_is)
    (case h_a2 => k_is)
    (case h_l2 => k_is)
    (case h_c2 => k_is)
    (case h_k2 => k_is)
    (case h_a3 => k_is)
    (case h_l3 => k_is)
    (case h_c3 => k_is)
    (case h_k3 => k_is)
    (case h_a4 => k_is)
    (case h_l4 => k_is)
    (case h_c4 => k_is)
    (case h_k4 => k_is)
    (case h_a5 => k_is)
    (case h_l5 => k_is)
    (case h_c5 => k_is)
    (case h_k5 => k_is)
    (case h_a6 => k_is)
    (case h_l6 => k_is)
    (case h_c6 => k_is)
    (case h_k6 => k_is)
    (case h_a7 => k_is)
    (case h_l7 => k_is)
    (case h_c7 => k_is)
    (case h_k7 => k_is)
    (case h_a8 => k_is)
    (case h_l8 => k_is)
    (case h_c8 => k_is)
    (case h_k8 => k_is)
    (case h_a9 => k_is)
    (case h_l9 => k_is)
    (case h_c9 => k_is)
    (case h_k9 => k_is)
    (case h_a10 => k_is)
    (case h_l10 => k_is)
    (case h_c10 => k_is)
    (case h_k10 => k_is)
    (case h_a11 => k_is)
    (case h_l11 => k_is)
    (case h_c11 => k_is)
    (case h_k11 => k_is)
    (case h_a12 => k_is)
    (case h_l12 => k_is)
    (case h_c12 => k_is)
    (case h_k12 => k_is)
    (case h_a13 => k_is)
    (case h_l13 => k_is)
    (case h_c13 => k_is)
    (case h_k13 => k_is)
    (case h_a14 => k_is)
    (case h_l14 => k_is)
    (case h_c14 => k_is)
    (case h_k14 => k_is)
    (case h_a15 => k_is)
    (case h_l15 => k_is)
    (case h_c15 => k_is)
    (case h_k15 => k_is)
    (case h_a16 => k_is)
    (case h_l16 => k_is)
    (case h_c16 => k_is)
    (case h_k16 => k_is)
    (case h_z_isinstance => k_is)
    (case h_z_int => k_is)
    (case h_z_bool => k_is)
    (case h_z_tuple => k_is)
    (case h_z_str => k_is)
    (case h_z_len => k_is)
    (case h_z_min => k_is)
    (case h_z_max => k_is)
    (case h_z_range => k_is)
    (case h_z_all => k_is)
    (case h_z_zip => k_is)
    (case h_z_abs => k_is)
    (case h_z_list => k_is)
    (case h_z_repr => k_is)
    (case h_tL => kernel_rfl)
    (case h_tM => kernel_rfl)
    (case h_gS => rfl)
    (case h_dS => first | kernel_rfl | rfl)
    (case h_sr => first | kernel_rfl | rfl)
    (case h_su => first | kernel_rfl | rfl)
    (case h_sl => first | kernel_rfl | rfl)
    (case h_sd => first | kernel_rfl | rfl)
    (case h_gW => rfl)
    (case h_dW => first | kernel_rfl | rfl)
    (case h_qE => k_is)
    (case h_tb => kernel_rfl)
#print axioms PySem.Challenge.cw_nevercrossed_k10_walks_as_texts_holds
