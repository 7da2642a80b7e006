import PyProof.Rows.All
import Wide.All
import OpenK.AllK
import Wide.FinOn
import HandS.ForMost
import HandS.Exc
import HandS.ExcOwn
import PyProof.ReprRoads
import HandS.ExcInit
import HandS.ExcField
import HandS.IsInst
import KE.KExcIs
import KE.KTypeName
import HandS.TryOnly
import HandS.ExcCtx
import HandS.HotCalls
import HandS.Comp
import PyProof.StrLawsRepr
import PyProof.FitsInt
import HandS.Deep
import HandS.Wide
import HandS.WordsExc
import HandS.More
import HandS.HeadHook3
import PyProof.P3In
import PyProof.Rows.IntBool
import KE.DataMinMax
import KE.SortData
import HandS.Replace
import HandS.Style
import PySem.Challenge.RW_nevercrossed_k01_points_directions_and_e
set_option Elab.async false
set_option linter.all false
set_option maxRecDepth 100000
set_option maxHeartbeats 4000000
/-! Calls made where no value is being shown (so that repr may be asked), and the end of a law for such defs. -/
namespace Nv
open PySem PySem.Spec PyProof.Rows L2

structure FnG (P : Program) (w : World) (K : PySem.W.Frag) (mg : Str → Option Value) (base : Heap) (k : Nat) (f : Addr) (fd : FuncData) (ps : List Str) (sp : Sp) : Prop where
  many : ∀ vs H Q E, sp vs H Q E → vs.length = ps.length
  does : ∀ (A : Around) (outer : List Env) (s : Shared) (H : Hp) (ar : Args) (us : List Value) (vs : List V) (Q : VK) (E : XK),
    A.guards = some [] → Room k A → Env0 P w K mg base A outer s H → BindsTo s fd ar (ps.zip us) → Vals vs us → sp vs H Q E →
    codeAny (model P w) A (.call (.ref f) ar) (CR CX0 outer P w H s Q E) s

theorem all_kinds {N ps : List Str} {sc : Scope} (S : FnScope N ps sc) (us : List Value) :
    ((ps.zip us).all fun y => sc.names.lookup y.1 == some .local || sc.names.lookup y.1 == some .cell) = true := by
  rw [List.all_eq_true]
  rintro ⟨x, v⟩ hy
  rcases S.par x (List.of_mem_zip hy).1 with q | q <;> simp [q]

section
variable {P : Program} {w : World} {K : PySem.W.Frag} {mg : Str → Option Value} {base : Heap}
theorem FnG.made {x qual : Str} {st : Stmt} {f : Addr} {fd : FuncData} {N ps : List Str} {k : Nat} {sp : Sp} (F : Fun K x qual st f fd) (S : FnScope N ps (defScope st))
    (many : ∀ vs H Q E, sp vs H Q E → vs.length = ps.length)
    (body : ∀ (cdv : Value) (A : Around) (outer : List Env) (s : Shared) (H : Hp) (vs : List V) (Q : VK) (E : XK), A.guards = some [] →
      Room k (A.deeper (envOfC qual (defScope st) s.heap.objs.size f cdv)) → sp vs H Q E →
      ∃ t, PSs (cxOf CX0 P w K mg base N qual (defScope st) f cdv A outer s H E).nox (defBody st) t ∧ t { nx := fun _ H' => Q .non H', rt := Q } (start N vs) H) :
    FnG P w K mg base (k + 1) f fd ps sp := by
  obtain ⟨oc, od, kV, doc, pm, an, cdv, ct, osl, rfl, lk, hcd⟩ := F.ex
  constructor
  · exact many
  intro A outer s H ar us vs Q E gd room env hb rel want
  obtain ⟨t, der, hq⟩ := body cdv A outer s H vs Q E gd (room.deeper _) want
  have inK : K.In s.heap := env.mod.kin.keeps fun b o z => (env.bs b o z).1
  have nolim : s.heap.NoLimit := env.mod.nolimit.keeps fun b o z => (env.bs b o z).1
  refine Att.call_fn inK nolim lk hcd room.depth hb (all_kinds S us) (fun s1 ic => ?_) S.co S.gen S.kind
  have J := inv_start (CX := CX0) (E := E) (N := N) S room.hd env (many _ _ _ _ want) rel ic
  refine wpAny_mono (der.nox.run [] s1 _ H _ J hq) ?_ fun _ _ z => z
  rintro (_ | _ | _ | u) s' z
  · obtain ⟨σ', H', J', q⟩ := z
    exact ⟨.non, H', J'.os, J'.bare, J'.base, J'.hok, rfl, q⟩
  · obtain ⟨_, _, _, q⟩ := z
    exact q.elim
  · obtain ⟨_, _, _, q⟩ := z
    exact q.elim
  · obtain ⟨v, σ', H', J', r, q⟩ := z
    exact ⟨v, H', J'.os, J'.bare, J'.base, J'.hok, r, q⟩
end

section
variable {X : Cx} {k : Nat} {f : Addr} {fd : FuncData} {ps : List Str} {sp : Sp} {x : Str} {p pos : Pos} {e : Expr} {es : List Expr} {t : TA}
/-- x(e, ..), nothing raised -/
theorem pe_callG (F : FnG X.prog X.w X.K X.mg X.base k f fd ps sp) (gd : X.A.guards = some []) (hr : Room k X.A) (hg : Gl X x) (hm : X.mg x = some (.ref f)) (hk : PySem.W.keepIn X.K (.ref f) = true)
    (hb : Binds X.K fd ps []) (ha : PA X (e :: es) t) (hdb : (x == ("__debug__" : Str)) = false := by decide)
    (he : starEach (e :: es) X.env = (false, eval e X.env) :: starEach es X.env := by rfl) (hpl : (backTo pos (starEach es X.env)).any (·.1) = false := by rfl) :
    PE X (.Call (.Name x p) (e :: es) [] pos) (tCall sp [] E0 t) := by
  constructor
  intro pins s σ H Q I h
  refine wpAny_Call_Name_kw (ld_glob I hg hm (PySem.W.callWith_K (h₀ := X.base) I.ok.mod.kin hk (thn (ha.run pos pins s σ H _ I h) ?_) he hpl) hdb)
  rintro us s1 ⟨vs, H1, I1, r, q⟩
  rw [List.append_nil] at q
  have lu : (us ++ ([] : List Value)).length = ps.length := by rw [List.append_nil, ← r.length]; exact F.many _ _ _ _ q
  have b := hb s1 us I1.kIn lu
  rw [List.append_nil] at b
  refine ⟨I1.kIn, wpAny_call (codeAny_mono (F.does X.A X.stack s1 H1 ⟨us, []⟩ us vs Q E0 gd hr I1.env0 b r q) ?_)⟩
  rintro (z | (_ | _ | _ | u)) s2 hz
  · exact hz.elim
  · exact hz.elim
  · exact hz.elim
  · exact hz.elim
  · exact I1.after hz
end
end Nv
set_option Elab.async false
set_option linter.all false
set_option maxRecDepth 100000
set_option maxHeartbeats 4000000
/-! The end of a law whose def shows values. -/
namespace Nv
open PySem PySem.Spec PyProof.Rows L2

section
variable {P : Program} {w : World} {K : PySem.W.Frag} {mg mb : Str → Option Value} {k : Nat} {fa a : Addr} {fd : FuncData} {x : Str} {sp : Sp} {s1 : Shared} {vs : List Value} {ns : List Int}
/-- nothing is tracked, or the script alone -/
structure Alone (s1 : Shared) (a : Addr) (vs : List Value) (ns : List Int) (H : Hp) : Prop where
  one : ∀ b u, H b = some u → b = a ∧ u = .frz { cls := .type "list", data := .seq vs.toArray } (.lst (ns.map V.int))
theorem Alone.dict_free {H : Hp} (z : Alone s1 a vs ns H) (ha : s1.heap.get? a = some { cls := .type "list", data := .seq vs.toArray }) {b : Addr} {o : Obj} {es : Array DictEntry} {ep : Nat} (e : s1.heap.get? b = some o) (d : o.data = .dict es ep) : H b = none := by
  cases q : H b with
  | none => rfl
  | some u =>
    have eb := (z.one b u q).1
    rw [eb, ha] at e
    cases e
    exact nomatch d
theorem Alone.ns_kept {H : Hp} (z : Alone s1 a vs ns H) (ha : s1.heap.get? a = some { cls := .type "list", data := .seq vs.toArray }) {b : Addr} {m : Str → Option Value} : s1.heap.Ns b m → (hidT s1.heap H).Ns b m := by
  rintro ⟨o, es, ep, e, d, r⟩
  exact ⟨o, es, ep, hidT_get e (z.dict_free ha e d), d, r⟩
theorem end_of (KX : K.In s1.heap) (hns : s1.heap.Ns mainGlobals mg) (hb : s1.heap.Ns builtinsNs mb) (hbb : ∀ x : Str, x ≠ "__name__" → mb x = bootBuiltins x) (hlim : s1.heap.NoLimit) (hg : s1.gens = #[])
    (ha : s1.heap.get? a = some { cls := .type "list", data := .seq vs.toArray }) (hr : Room k callerA)
    (F : ∀ base : Heap, K.In base → base.Ns mainGlobals mg → FnG P w K mg base k fa fd [x] sp) (hbind : ∀ (s : Shared) (u : Value), BindsTo s fd ⟨[u], []⟩ [(x, u)])
    {H : Hp} (z : Alone s1 a vs ns H) (nk : ∀ b u, H b = some u → K.lookup b = none) (hok : HOk P w H s1.heap) (want : sp [.ref a] H (fun v _ => v = .bl true) E0) :
    codeAny (model P w) callerA (.call (.ref fa) ⟨[.ref a], []⟩) (fun r s' => r = .ok (.ret (.bool true)) ∧ OldK s1.heap s'.heap ∧ s'.os = s1.os ∧ AllBare s'.gens) s1 := by
  have kb : K.In (hidT s1.heap H) := by
    intro b o e
    refine hidT_get (KX b o e) ?_
    cases q : H b with
    | none => rfl
    | some u =>
      rw [nk b u q] at e
      cases e
  obtain ⟨ml, l1, l2⟩ := hlim
  have md : Mod K mg (hidT s1.heap H) := { kin := kb, glob := z.ns_kept ha hns, blt := ⟨mb, z.ns_kept ha hb, hbb⟩, nolimit := ⟨ml, z.ns_kept ha l1, l2⟩ }
  have env : Env0 P w K mg (hidT s1.heap H) callerA [] s1 H := { frames := rfl, mod := md, bs := fun _ _ e => of_hidT e, bsz := Nat.le_of_eq (hidT_size _ _), funs := trivial, frf := fun b h => (List.not_mem_nil h).elim, hok := hok, bare := .of_eq hg }
  refine codeAny_mono ((F _ kb (z.ns_kept ha hns)).does callerA [] s1 H ⟨[.ref a], []⟩ [.ref a] [.ref a] _ E0 rfl hr env (hbind s1 (.ref a)) (.cons rfl .nil) want) ?_
  rintro (e | (_ | _ | _ | u)) s' h
  · exact h.elim
  · exact h.elim
  · exact h.elim
  · exact h.elim
  obtain ⟨v, H', os, bare, un, hok', rv, q⟩ := h
  subst q
  cases (show u = Value.bool true from rv)
  refine ⟨rfl, OldK.of_keep fun b o e => ?_, os, bare⟩
  cases q : H b with
  | none => exact un.keep b o e q List.not_mem_nil List.not_mem_nil
  | some t =>
    have et := (z.one b t q).2
    subst et
    have e1 := (hok b _ q).1
    rw [e] at e1
    cases e1
    exact (hok' b _ (un.frzs b _ _ q)).1
theorem law_endG (KX : K.In s1.heap) (hns : s1.heap.Ns mainGlobals mg) (hb : s1.heap.Ns builtinsNs mb) (hbb : ∀ x : Str, x ≠ "__name__" → mb x = bootBuiltins x) (hlim : s1.heap.NoLimit) (hg : s1.gens = #[])
    (ha : s1.heap.get? a = some { cls := .type "list", data := .seq vs.toArray }) (hi : IntsAre vs ns) (hl : ns.length ≤ sizeLine) (hr : Room k callerA)
    (F : ∀ base : Heap, K.In base → base.Ns mainGlobals mg → FnG P w K mg base k fa fd [x] sp) (hbind : ∀ (s : Shared) (u : Value), BindsTo s fd ⟨[u], []⟩ [(x, u)])
    (want : ∀ H : Hp, SqL K H a (ns.map V.int) → sp [.ref a] H (fun v _ => v = .bl true) E0) :
    codeAny (model P w) callerA (.call (.ref fa) ⟨[.ref a], []⟩) (fun r s' => r = .ok (.ret (.bool true)) ∧ OldK s1.heap s'.heap ∧ s'.os = s1.os ∧ AllBare s'.gens) s1 := by
  have rv := vals_ints hi
  by_cases hk : ∃ o, K.lookup a = some o
  · obtain ⟨o, hk⟩ := hk
    have eo : o = { cls := .type "list", data := .seq vs.toArray } := by
      have z := KX a o hk
      rw [ha] at z
      exact (Option.some.inj z).symm
    subst eo
    refine end_of (ns := ns) KX hns hb hbb hlim hg ha hr F hbind (H := fun _ => none) ⟨fun _ _ z => nomatch z⟩ (fun _ _ z => nomatch z) (fun _ _ z => nomatch z) (want _ (.inr ?_))
    exact ⟨_, vs.toArray, _, hk, rfl, rfl, rfl, by rw [List.size_toArray, hi.length]; exact hl, by simpa using rv⟩
  · have nk : K.lookup a = none := by
      cases q : K.lookup a with
      | none => rfl
      | some o => exact (hk ⟨o, q⟩).elim
    let H : Hp := fun b => if b = a then some (.frz { cls := .type "list", data := .seq vs.toArray } (.lst (ns.map V.int))) else none
    have at_a : H a = some (.frz { cls := .type "list", data := .seq vs.toArray } (.lst (ns.map V.int))) := if_pos rfl
    have al : Alone s1 a vs ns H := ⟨fun b u q => by
      by_cases eb : b = a
      · subst eb
        rw [at_a] at q
        exact ⟨rfl, (Option.some.inj q).symm⟩
      · rw [show H b = none from if_neg eb] at q
        cases q⟩
    refine end_of KX hns hb hbb hlim hg ha hr F hbind al (fun b u q => by rw [(al.one b u q).1]; exact nk) (fun b u q => ?_) (want H (.inl (.inr ⟨_, at_a⟩)))
    obtain ⟨rfl, rfl⟩ := al.one b u q
    exact ⟨ha, by rw [List.length_map]; exact hl, vs, _, rv, ha⟩
end

/-- the goal that the head leaves -/
theorem walkG {l : PySem.W.OpenLaw} {n k : Nat} {q : Program} {loose : List Str} {XP : (Str → Option Value) → Heap → Prop} {YP : World → Heap → Prop} {d : DefRec} {K : Params → PySem.W.Frag} {sp : PySem.W.Frag → Sp} {x : Str}
    (hn : l.most = some n) (hn2 : n ≤ sizeLine) (hdf : d.params.defaults = []) (hr : Room k callerA) (hY : ∀ (w : World) (h : Heap), YP w h → (K w.params).In h)
    (F : ∀ (w : World) (mg : Str → Option Value) (fa : Addr) (h : Heap), (K w.params).In h → h.Ns mainGlobals mg → mg d.name = some (.ref fa) →
      ∃ fd : FuncData, (∀ (s : Shared) (u : Value), BindsTo s fd ⟨[u], []⟩ [(x, u)]) ∧
        ∀ base : Heap, (K w.params).In base → base.Ns mainGlobals mg → FnG l.prog w (K w.params) mg base k fa fd [x] (sp (K w.params)))
    (want : ∀ (K : PySem.W.Frag) (H : Hp) (a : Addr) (ns : List Int), ns.length ≤ n → SqL K H a (ns.map V.int) → sp K [.ref a] H (fun v _ => v = .bl true) E0) :
    PySem.W.WalkO q loose XP YP l.row.toRowW d [] (fun f vs => PySem.call f vs) := by
  refine Att.attach_call hn hdf ?_
  intro w s₀ s₁ mg mb fa o pm cd doc a vs ns G Y _ _ _ hmg hobj hints hlen hg
  obtain ⟨fd, hb, hF⟩ := F w mg fa _ (hY w _ Y) G.T.g hmg
  exact law_endG (hY w _ Y) G.T.g G.T.b G.T.builtins G.T.nolimit hg hobj hints (Nat.le_trans hlen hn2) hr hF hb (fun H hS => want _ H a ns hlen hS)
end Nv
set_option Elab.async false
set_option linter.all false
set_option maxRecDepth 100000
set_option maxHeartbeats 4000000
/-! Data of any depth over the abstract heap; repr of them. -/
namespace Nv
open PySem PySem.Spec PyProof.Rows L2

mutual
/-- v is the datum d -/
inductive DV (H : Hp) : V → PyData → Prop
  | non : DV H .non .none
  | bl (b : Bool) : DV H (.bl b) (.bool b)
  | int (i : Int) : DV H (.int i) (.int i)
  | str (x : Str) : DV H (.str x) (.str x)
  | lst {a : Addr} {xs : List V} {ds : List PyData} (h : H a = some (.lst xs)) (r : DVs H xs ds) : DV H (.ref a) (.list ds)
  | tup {a : Addr} {xs : List V} {ds : List PyData} (h : H a = some (.tup xs)) (r : DVs H xs ds) : DV H (.ref a) (.tuple ds)
  | emp {a : Addr} (h : H a = some (.dK [])) : DV H (.ref a) (.dict [])
inductive DVs (H : Hp) : List V → List PyData → Prop
  | nil : DVs H [] []
  | cons {x : V} {xs : List V} {d : PyData} {ds : List PyData} (h : DV H x d) (r : DVs H xs ds) : DVs H (x :: xs) (d :: ds)
end

mutual
theorem DV.more {H H' : Hp} (k : Same H H') : ∀ {v : V} {d : PyData}, DV H v d → DV H' v d
  | _, _, .non => .non
  | _, _, .bl b => .bl b
  | _, _, .int i => .int i
  | _, _, .str x => .str x
  | _, _, .lst h r => .lst (k _ _ h) (r.more k)
  | _, _, .tup h r => .tup (k _ _ h) (r.more k)
  | _, _, .emp h => .emp (k _ _ h)
theorem DVs.more {H H' : Hp} (k : Same H H') : ∀ {vs : List V} {ds : List PyData}, DVs H vs ds → DVs H' vs ds
  | _, _, .nil => .nil
  | _, _, .cons h r => .cons (h.more k) (r.more k)
end

theorem DVs.length {H : Hp} : ∀ {vs : List V} {ds : List PyData}, DVs H vs ds → vs.length = ds.length
  | _, _, .nil => rfl
  | _, _, .cons _ r => by rw [List.length_cons, List.length_cons, r.length]
theorem DVs.at {H : Hp} : ∀ {vs : List V} {ds : List PyData}, DVs H vs ds → ∀ (i : Nat) (v : V), vs[i]? = some v → ∃ d, ds[i]? = some d ∧ DV H v d
  | _, _, .cons h r, 0, v, e => ⟨_, rfl, by cases e; exact h⟩
  | _, _, .cons h r, i + 1, v, e => r.at i v (by simpa using e)

theorem emp_reads {P : Program} {w : World} {H : Hp} {h : Heap} {a : Addr} {u : Value} (ok : HOk P w H h) (h1 : H a = some (.dK [])) (r : RelV (.ref a) u) : Reads h u (.dict []) [a] ∧ sysModules ∉ [a] := by
  obtain ⟨_, ns, vs, kv, o, es, ep, e, hx, hd, _, hp, _⟩ := ok a _ h1
  cases kv
  have ez : es.toList = [] := List.length_eq_zero_iff.mp hp.length
  rw [show u = Value.ref a from r]
  refine ⟨.dict (kvs := []) (as := []) (bs := []) e hx.1 hd (by rw [ez]; exact .nil) (by rw [ez]; exact .nil), fun z => ?_⟩
  rw [List.mem_singleton] at z
  rw [← z] at ns
  simp at ns

mutual
theorem DV.reads {P : Program} {w : World} {H : Hp} {h : Heap} (ok : HOk P w H h) : ∀ {v : V} {d : PyData} {u : Value}, DV H v d → RelV v u → ∃ as, Reads h u d as
  | _, _, u, .non, r => ⟨[], by rw [show u = Value.none from r]; exact .none⟩
  | _, _, u, .bl b, r => ⟨[], by rw [show u = Value.bool b from r]; exact .bool b⟩
  | _, _, u, .int i, ⟨t, e⟩ => ⟨[], by rw [e]; exact .int i t⟩
  | _, _, u, .str x, ⟨t, e⟩ => ⟨[], by rw [e]; exact .str x t⟩
  | _, _, u, .lst (a := a) (xs := xs) h1 q, r => by
    obtain ⟨_, its, n, rv, e⟩ := ok a _ h1
    obtain ⟨as, ra⟩ := q.reads ok rv
    refine ⟨a :: as, ?_⟩
    rw [show u = Value.ref a from r]
    exact .list e rfl rfl (by simpa using ra)
  | _, _, u, .tup (a := a) (xs := xs) h1 q, r => by
    obtain ⟨_, its, rv, o, e, hc, n, hd⟩ := ok a _ h1
    obtain ⟨as, ra⟩ := q.reads ok rv
    refine ⟨as, ?_⟩
    rw [show u = Value.ref a from r]
    exact .tuple e hc hd (by simpa using ra)
  | _, _, u, .emp (a := a) h1, r => ⟨_, (emp_reads ok h1 r).1⟩
theorem DVs.reads {P : Program} {w : World} {H : Hp} {h : Heap} (ok : HOk P w H h) : ∀ {vs : List V} {ds : List PyData} {us : List Value}, DVs H vs ds → Vals vs us → ∃ as, ReadsAll h us ds as
  | _, _, _, .nil, .nil => ⟨[], .nil⟩
  | _, _, _, .cons h1 q, .cons r rs => by
    obtain ⟨as, ra⟩ := h1.reads ok r
    obtain ⟨bs, rb⟩ := q.reads ok rs
    exact ⟨as ++ bs, .cons ra rb⟩
end

/-- what repr may be asked of -/
structure Nice (d : PyData) : Prop where
  shows : d.showable = true
  deep : d.depth ≤ 60
  long : d.shown.length ≤ sizeLine
  dic : d.hasDict = true → d = .dict []

theorem call_reprD {X : Cx} (gd : X.A.guards = some []) (hu : X.A.units + 100 < cLine) :
    CallR X (.builtin "repr") (fun xs H Q => ∃ v d, xs = [v] ∧ DV H v d ∧ Nice d ∧ Q (.str d.shown) H) := by
  rintro pins s σ H xs us Q I r ⟨v, d, rfl, dv, nz, q⟩
  cases r with
  | cons r0 rr =>
    cases rr
    rename_i u
    have fin : ∀ (h' : Heap) (t : Tok) (tk : Nat), (∀ b o, s.heap.get? b = some o → h'.get? b = some o) → EP X pins σ Q (.str d.shown t) { s with heap := h', toks := tk } :=
      fun h' t tk k => ⟨.str d.shown, H, I.kept (t' := tk) k, ⟨t, rfl⟩, q⟩
    have viaRef : ∀ (a : Addr) (as : List Addr), u = .ref a → Reads s.heap u d as → (d.hasDict = true → sysModules ∉ as) → wpAny (model X.prog X.w) X.A (call (.builtin "repr") [u]) (EP X pins σ Q) X.xe s := by
      rintro a as rfl rd hs
      exact repr_of_reads' rd nz.shows hs gd (by have := nz.deep; omega) (fun _ _ e => e) (fun h' t tk k => fin h' t tk k) nz.long
    have leaf : EP X pins σ Q (.str d.shown s.toks) { s with heap := s.heap, toks := s.toks + 1 } := fin s.heap s.toks (s.toks + 1) fun _ _ e => e
    obtain ⟨as, rd⟩ := dv.reads I.hok r0
    cases dv with
    | non =>
      cases (show u = Value.none from r0)
      exact P.repr_of_none (by simpa only [PyData.shown] using leaf)
    | bl b =>
      cases (show u = Value.bool b from r0)
      exact P.repr_of_bool (by simpa only [PyData.shown] using leaf)
    | int i =>
      obtain ⟨t, rfl⟩ := r0
      exact P.repr_of_int (by simpa [PyData.showable] using nz.shows) (by simpa only [PyData.shown] using leaf)
    | str x =>
      obtain ⟨t, rfl⟩ := r0
      exact P.repr_of_str (by simpa only [PyData.shown] using leaf) (by simpa only [PyData.shown] using nz.long)
    | lst h1 q1 => exact viaRef _ _ r0 rd fun z => nomatch nz.dic z
    | tup h1 q1 => exact viaRef _ _ r0 rd fun z => nomatch nz.dic z
    | @emp a h1 =>
      have z := emp_reads I.hok h1 r0
      exact viaRef _ _ r0 z.1 fun _ => z.2
end Nv
set_option Elab.async false
set_option linter.all false
set_option maxRecDepth 100000
set_option maxHeartbeats 4000000
/-! self.__class__.__name__ of an exception of a class of the program. -/
namespace PySem.W
open PySem PySem.Calls PyProof.Rows PyProof.V PySem.Spec Builtin Builtin.ObjectAttr Builtin.Getset_descriptor
section
variable {prog : Program} {w : World} {A : Around} {E : Value → Shared → Prop} {s : Shared} {K : Frag} {x C : Addr} {ox : Obj} {od : Option Obj} {name : Str}

theorem nm_classE {expr : Bool} {gt : Option Value} {Q : Value → Shared → Prop} (X : K.In s.heap) (I : InstAt s.heap x ox C od) (hga : findIn K (.ref C) "__getattribute__" = some (some (.builtin "BaseException.__getattribute__"))) (hgt : findIn K (.ref C) "__getattr__" = some gt)
    (hsub : subIn K (.ref C) (.type "BaseException") = some true) (hf : findObj K C od "__class__" = some (.bind (.builtin "getset_descriptor.__get__") (.builtin "object.__class__"))) (hm : mroIn K C (.type "object") = some true)
    (h : Q (.ref C) { s with toks := s.toks + 1 }) : wpAny (model prog w) A (getAttr (.ref x) "__class__" expr) Q E s := by
  obtain ⟨hp, g, d, t, os⟩ := s
  have L0 := I.type (M := model prog w)
  have L1 := looks_findIn (M := model prog w) X hga
  have L2 := looks_findIn (M := model prog w) X hgt
  have L3 := looks_find (M := model prog w) X I hf
  have sub : Looks (model prog w) hp (isInstance (.ref x) (.type "BaseException")) true := L0.andThen (looks_subIn X hsub)
  have hx0 : (expr && onTheHeap (Value.builtin "BaseException.__getattribute__")) = false := by cases expr <;> rfl
  have hx2 : (Value.builtin "BaseException.__getattribute__" == Value.builtin "object.__getattribute__") = false := by decide +kernel
  have hx1 : (onTheHeap (Value.ref C) && Value.builtin "BaseException.__getattribute__" == Value.builtin "object.__getattribute__") = false := by rw [hx2]; rfl
  unfold getAttr getAttrBy
  refine wpAny_bind (wpAny_mkText (wpAny_holding (wpAny_bind (L0.at (wpAny_bind (L1.at ?_))))))
  show wpAny _ _ (if (onTheHeap (Value.ref C) && Value.builtin "BaseException.__getattribute__" == Value.builtin "object.__getattribute__") = true then _ else _) _ _ _
  rw [hx1, if_neg Bool.false_ne_true]
  unfold getAttrByItsOwn hookBefore
  refine wpAny_bind ?_
  rw [if_pos (show onTheHeap (Value.ref C) = true from rfl)]
  refine L2.at ?_
  refine wpAny_bind (wpAny_attempt (wpAny_holding ?_))
  unfold callGetattribute
  rw [hx0, if_neg Bool.false_ne_true]
  unfold boundAndCalled
  rw [PySem.F.excAttr_ValueError.ga.bind (.ref x)]
  refine wpAny_bind (wpAny_pure ?_)
  show wpAny _ _ (call (.builtin "BaseException.__getattribute__") [.ref x, .str "__class__" t]) _ _ _
  refine wpAny_call (codeAny_call_builtin PySem.F.excAttr_ValueError.ga.plain PySem.F.entry_bexc_ga ?_)
  refine @PySem.W.check_slot (model prog w) _ _ ⟨hp, g, d, t + 1, os⟩ "BaseException.__getattribute__" "BaseException" "__getattribute__" (.ref x) [.str "__class__" t] [] _ (by decide +kernel) (by decide +kernel) sub (PySem.F.args_bexc_ga (.ref x) (.str "__class__" t)) ?_
  unfold Builtin.«object.__getattribute__»
  refine wpAny_bind (wpAny_of_eq (a := ((Value.ref x : Value), [Value.str "__class__" t])) (by first | rfl | (simp only [slotArgs]; rfl)) ?_)
  refine wpAny_bind (wpAny_pure (wpAny_bind (L0.at (wpAny_bind (L3.at ?_)))))
  refine wpAny_bind (wpAny_holding (wpAny_call (class_get (s := ⟨hp, g, d, t + 1, os⟩) (ox := ox) (od := od) X I hm ?_)))
  refine wpAny_pure ?_
  show wpAny _ _ (handedOut (.ref C)) _ _ _
  rw [handedOut_of (show handedIn (.ref C) = true from rfl)]
  first | exact wpAny_pure h | exact wpAny_pure (wpAny_pure h)

theorem nm_dga (d tp : Value) (C : Addr) : descrGetArgs ⟨[d, .ref C, tp], []⟩ = pure (d, some (.ref C), given tp) := by kernel_rfl
/-- the text that a class keeps as its name -/
def nameIn (K : Frag) (C : Addr) : Option (Str × Tok) := match K.lookup C with
  | some o => (match o.slots[2]? with
    | some (some (Value.str x t)) => some (x, t)
    | _ => none)
  | none => none
theorem nm_slot {M : Model} {n : Str × Tok} {Q : Option Value → Shared → Prop} (X : K.In s.heap) (hn : nameIn K C = some n) (h : Q (some (.str n.1 n.2)) s) : wpAny M A (slotAt C 2) Q E s := by
  unfold nameIn at hn
  split at hn
  · rename_i o ho
    split at hn
    · rename_i x t hs
      cases hn
      unfold slotAt
      refine wpAny_bind (wpAny_loadPart (X _ _ ho) (wpAny_pure ?_))
      rw [hs]
      exact h
    · cases hn
  · cases hn
theorem nm_get {tp : Value} {n : Str × Tok} {R : Result → Shared → Prop} (X : K.In s.heap) (ht : Looks (model prog w) s.heap (typeOf (.ref C)) (.type "type")) (hn : nameIn K C = some n) (h : R (.ok (.ret (.str n.1 n.2))) s) :
    codeAny (model prog w) A (.call (.builtin "getset_descriptor.__get__") ⟨[.builtin "type.__name__", .ref C, tp], []⟩) R s := by
  obtain ⟨hh, g, dr, t, os⟩ := s
  have L0 := ht
  have L1 : Looks (model prog w) hh (isSubtype (.type "type") (.type "type")) true := Looks.of_pure (by rw [isSubtype_type]; kernel_rfl)
  refine codeAny_call_builtin KF.slot_gs.plain KF.entry_gs (KF.slot_gs.check _ _ _ _ _ _ _ _ ktyn_type (KF.args_gs _ _ _) ?_)
  unfold Builtin.«getset_descriptor.__get__» descrGet
  rw [nm_dga]
  refine wpAny_bind (wpAny_pure ?_)
  unfold descrGetter descrCheckInstance descrNameAndClass isInstance
  simp only [ktyn_owner]
  repeat lk
  refine ⟨Code.quiet_builtin _ (by decide +kernel), codeAny_builtin ktyn_entry ?_⟩
  unfold Builtin.«type.__name__» keptObject
  dsimp only
  refine wpAny_bind (nm_slot (K := K) X hn ?_)
  first
    | exact wpAny_pure h
    | exact wpAny_pure (wpAny_pure h)
    | exact wpAny_bind (wpAny_pure h)
    | exact wpAny_bind (wpAny_pure (wpAny_pure h))
    | exact wpAny_bind (wpAny_bind (wpAny_pure (wpAny_pure h)))
theorem nm_name {expr : Bool} {n : Str × Tok} {Q : Value → Shared → Prop} (X : K.In s.heap) (hr : readsIn K C (.type "type") = true) (ht : typeIn K (.ref C) = some (.type "type"))
    (e : findCls K (.ref C) (.type "type") "__name__" = some (.get (.builtin "getset_descriptor.__get__") (.builtin "type.__name__") (.ref C) (.type "type"))) (hn : nameIn K C = some n)
    (h : Q (.str n.1 n.2) { s with toks := s.toks + 1 }) : wpAny (model prog w) A (getAttr (.ref C) "__name__" expr) Q E s := by
  refine cls_read X hr e ?_
  show wpAny _ _ (do ret (← holding [Value.builtin "type.__name__"] (call (.builtin "getset_descriptor.__get__") [.builtin "type.__name__", .ref C, .type "type"]))) _ _ _
  refine wpAny_bind (wpAny_holding (wpAny_call (nm_get (K := K) (s := { s with toks := s.toks + 1 }) X (looks_typeIn X ht) hn ?_)))
  exact wpAny_pure (handed_on rfl h)
end
end PySem.W

namespace Nv
open PySem PySem.Spec PyProof.Rows L2
/-- what is asked of an exception class whose instances' class's name is read -/
structure NmC (K : PySem.W.Frag) (C : Addr) : Prop where
  ga : PySem.W.findIn K (.ref C) "__getattribute__" = some (some (.builtin "BaseException.__getattribute__"))
  gt : PySem.W.findIn K (.ref C) "__getattr__" = some none
  sb : PySem.W.subIn K (.ref C) (.type "BaseException") = some true
  cl : (PySem.W.clsIn K C).isSome = true
  cc : PySem.W.findIn K (.ref C) "__class__" = some (some (.builtin "object.__class__"))
  gs : PySem.W.specialIn K (.builtin "object.__class__") "__get__" = some (some (.builtin "getset_descriptor.__get__"))
  tk : PySem.W.takesIn K (.builtin "object.__class__") = some true
  ob : PySem.W.mroIn K C (.type "object") = some true
  rd : PySem.W.readsIn K C (.type "type") = true
  ty : PySem.W.typeIn K (.ref C) = some (.type "type")
  fc : PySem.W.findCls K (.ref C) (.type "type") "__name__" = some (.get (.builtin "getset_descriptor.__get__") (.builtin "type.__name__") (.ref C) (.type "type"))
  nm : ∃ n, PySem.W.nameIn K C = some n
section
variable {X : Cx} {e : Expr} {te : TE} {pos : Pos}
/-- o.__class__, o an exception of ours -/
theorem pe_xcls (he : PE X e te) (hb : attributeBase e "__class__" X.env (eval e X.env) = eval e X.env := by rfl) :
    PE X (.Attribute e "__class__" pos) (fun σ H Q => te σ H fun y H1 => ∃ (a C dx : Addr) (fs : List (Str × V)), y = .ref a ∧ NmC X.K C ∧ H1 a = some (exo a C (some dx)) ∧ H1 dx = some (exd dx fs) ∧ Q (.ref C) H1) := by
  constructor
  intro pins s σ H Q I h
  refine attr_of hb (thn (he.run pins s σ H _ I h) ?_)
  rintro u s1 ⟨y, H1, I1, ry, a, C, dx, fs, rfl, T, ha, hd, q⟩
  cases (show u = Value.ref a from ry)
  obtain ⟨t1, ho⟩ := exo_at I1.hok ha
  obtain ⟨mA, hns, rel⟩ := exd_at I1.hok hd
  obtain ⟨od, hod, look⟩ := lookIn_ns hns
  exact PySem.W.nm_classE (od := some od) I1.kIn ⟨ho, rfl, rfl, hod⟩ T.ga T.gt T.sb (PySem.W.findObj_dataE T.cl T.cc T.gs T.tk) T.ob ⟨V.ref C, H1, I1.tok _, rfl, q⟩
/-- C.__name__ -/
theorem pe_cname (he : PE X e te) (hb : attributeBase e "__name__" X.env (eval e X.env) = eval e X.env := by rfl) :
    PE X (.Attribute e "__name__" pos) (fun σ H Q => te σ H fun y H1 => ∃ C, y = .ref C ∧ NmC X.K C ∧ ∀ n, Q (.str n) H1) := by
  constructor
  intro pins s σ H Q I h
  refine attr_of hb (thn (he.run pins s σ H _ I h) ?_)
  rintro u s1 ⟨y, H1, I1, ry, C, rfl, T, q⟩
  cases (show u = Value.ref C from ry)
  obtain ⟨⟨n, tk⟩, hn⟩ := T.nm
  exact PySem.W.nm_name I1.kIn T.rd T.ty T.fc hn ⟨V.str n, H1, I1.tok _, ⟨tk, rfl⟩, q n⟩
end
end Nv
set_option Elab.async false
set_option linter.all false
set_option maxRecDepth 100000
set_option maxHeartbeats 4000000
/-! An own exception (its __init__ stores one field) as a value: made, its field read, its class asked. -/
namespace Nv
open PySem PySem.Spec PyProof.Rows L2

/-- the fields of an exception of ours -/
def xf (n : Str) (v : V) : List (Str × V) := [(("name" : Str), .str n), (("value" : Str), v)]
/-- the dict of an exception of ours, made of v -/
def XD (H : Hp) (dx : Addr) (v : V) : Prop := ∃ n, H dx = some (.xd (xf n v))
theorem XD.of {H : Hp} {dx : Addr} {n : Str} {v : V} : XD (upd H dx (.xd (xf n v))) dx v := ⟨n, upd_same⟩
theorem xf_value {n : Str} {v : V} : (xf n v).lookup ("value" : Str) = some v := rfl
theorem xf_name {n : Str} {v : V} : (xf n v).lookup ("name" : Str) = some (.str n) := rfl
/-- __init__(self, value): self.value = value; self.name = self.__class__.__name__ -/
def spIni (K : PySem.W.Frag) : Sp := fun vs H Q _ => ∃ (a C : Addr) (v : V), vs = [.ref a, v] ∧ OexC K C ∧ PySem.W.findIn K (.ref C) "value" = some none ∧ PySem.W.findIn K (.ref C) "name" = some none ∧ NmC K C ∧ H a = some (exo a C none) ∧
  ∀ dx n, H dx = none → dx ≠ a → Q .non (upd (upd H dx (exd dx (xf n v))) a (exo a C (some dx)))
theorem ini_heap {H : Hp} {a C dx : Addr} {n : Str} {v : V} (ne : dx ≠ a) : upd (upd (upd H dx (exd dx [(("value" : Str), v)])) a (exo a C (some dx))) dx (exd dx [(("name" : Str), .str n), (("value" : Str), v)])
    = upd (upd H dx (exd dx (xf n v))) a (exo a C (some dx)) := by
  funext b
  by_cases e1 : b = dx
  · subst e1
    rw [upd_same, upd_ne ne, upd_same]
    rfl
  · rw [upd_ne e1]
    by_cases e2 : b = a
    · rw [e2, upd_same, upd_same]
    · rw [upd_ne e2, upd_ne e2, upd_ne e1, upd_ne e1]

section
variable {X : Cx} {C fI : Addr} {k : Nat} {fd : FuncData} {x : Str} {p pos : Pos} {e : Expr} {te : TE}
/-- what is needed to make one -/
structure MkX (K : PySem.W.Frag) (C fI : Addr) : Prop where
  ox : OexC K C
  ini : PySem.W.findIn K (.ref C) "__init__" = some (some (.ref fI))
  tyI : PySem.W.typeIn K (.ref fI) = some (.type "function")
  nov : PySem.W.findIn K (.ref C) "value" = some none
  nof : PySem.W.findIn K (.ref C) "name" = some none
  nmc : NmC K C
/-- what stands behind C(e): the exception at a, its own dict at dx -/
def mkxQ (C : Addr) (Q : VK) (v : V) (H1 : Hp) : Prop := ∀ a dx n, H1 a = none → H1 dx = none → dx ≠ a → Q (.ref a) (upd (upd H1 dx (exd dx (xf n v))) a (exo a C (some dx)))
def mkxA (C : Addr) (Q : VK) : List V → Hp → Prop
  | [v], H1 => mkxQ C Q v H1
  | _, _ => False
/-- C(e) -/
theorem pe_mkx (T : MkX X.K C fI) (F1 : FnOk X.prog X.w X.K X.mg X.base CX0 k fI fd ["self", "value"] (spIni X.K)) (hr : Room (k + 1) X.A) (hb : Binds X.K fd ["self", "value"] []) (hg : Gl X x) (hm : X.mg x = some (.ref C)) (he : PE X e te)
    (hs : starEach (e :: []) X.env = (false, eval e X.env) :: starEach [] X.env := by rfl) (hpl : (backTo pos (starEach [] X.env)).any (·.1) = false := by rfl) (hdb : (x == ("__debug__" : Str)) = false := by decide) :
    PE X (.Call (.Name x p) [e] [] pos) (fun σ H Q => te σ H fun v H1 => mkxQ C Q v H1) := by
  constructor
  intro pins s σ H Q I h
  obtain ⟨nm, q, N, bs, bm, sn, sub, ab, col, dd, k0, k1, k2, k3, k5, hC, hbm⟩ := T.ox.cls
  have arg : PA X [e] (tCons te tNil) := pa_cons he pa_nil hs
  refine wpAny_Call_Name_kw (ld_glob I hg hm (PySem.W.callWith_K (h₀ := X.base) I.ok.mod.kin T.ox.kC (thn (arg.run pos pins s σ H (mkxA C Q) I h) ?_) hs hpl) hdb)
  rintro us ⟨hp, g, dr, tk, os⟩ ⟨vs, H1, I1, r1, q1⟩
  obtain ⟨v, rfl⟩ : ∃ v, vs = [v] := by
    rcases vs with _ | ⟨v, _ | ⟨_, _⟩⟩
    · exact q1.elim
    · exact ⟨v, rfl⟩
    · exact q1.elim
  have q2 : mkxQ C Q v H1 := q1
  refine ⟨I1.kIn, ?_⟩
  cases r1 with
  | cons rv rr =>
    cases rr
    rename_i u
    have h2 : ((hp.push (PySem.W.kdv_tup [u])).push (PySem.HandSPX.excO C hp.objs.size)).get? (hp.objs.size + 1) = some (PySem.HandSPX.excO C hp.objs.size) := by heap_get
    have new : hp.objs.size ≤ hp.objs.size + 1 := Nat.le_succ _
    have J := I1.laid (t' := tk) (a := hp.objs.size + 1) (o := exo (hp.objs.size + 1) C none) (h' := (hp.push (PySem.W.kdv_tup [u])).push (PySem.HandSPX.excO C hp.objs.size))
      (fun _ _ z => Heap.get?_push_of_some _ (Heap.get?_push_of_some _ z)) new (exo_ok h2)
    have nH : H1 (hp.objs.size + 1) = none := I1.hok.fresh new
    have want : spIni X.K [.ref (hp.objs.size + 1), v] (upd H1 (hp.objs.size + 1) (exo (hp.objs.size + 1) C none)) (fun z H2 => z = .non ∧ Q (.ref (hp.objs.size + 1)) H2) E0 := by
      refine ⟨_, C, v, rfl, T.ox, T.nov, T.nof, T.nmc, upd_same, fun dx n nd ne => ⟨rfl, ?_⟩⟩
      have nd1 : H1 dx = none := by rw [upd_ne ne] at nd; exact nd
      have z := q2 _ dx n nH nd1 ne
      have eh : upd (upd (upd H1 (hp.objs.size + 1) (exo (hp.objs.size + 1) C none)) dx (exd dx (xf n v))) (hp.objs.size + 1) (exo (hp.objs.size + 1) C (some dx))
          = upd (upd H1 dx (exd dx (xf n v))) (hp.objs.size + 1) (exo (hp.objs.size + 1) C (some dx)) := by
        funext b
        by_cases e1 : b = hp.objs.size + 1
        · rw [e1, upd_same, upd_same]
        · rw [upd_ne e1, upd_ne e1]
          by_cases e2 : b = dx
          · rw [e2, upd_same, upd_same]
          · rw [upd_ne e2, upd_ne e2, upd_ne e1]
      rw [eh]
      exact z
    refine wpAny_call (PySem.HandSPX.call_own F.excBase_ValueError (fun Y => PySem.HandSPX.refsVE_contains Y bm hbm) (I1.kIn _ _ hC) (PySem.W.looks_findIn I1.kIn T.ini) (fun self => PySem.W.bind_fn I1.kIn self T.tyI) (by show 1 ≤ sizeLine; decide) ?_)
    refine codeAny_mono (F1.run _ X.stack _ _ ⟨[.ref (hp.objs.size + 1), u], []⟩ [.ref (hp.objs.size + 1), u] [.ref (hp.objs.size + 1), v] _ E0 (hr.make C [u] []) (J.env0.make C [u] []) (hb _ [.ref (hp.objs.size + 1), u] J.kIn rfl) (.cons rfl (.cons rv .nil)) want) ?_
    rintro (z | (_ | _ | _ | r)) s' hz
    · exact hz.elim
    · exact hz.elim
    · exact hz.elim
    · exact hz.elim
    · obtain ⟨v', H', I3, rv', ev, q3⟩ := J.after hz
      subst ev
      exact ⟨rv', ⟨.ref (hp.objs.size + 1), H', I3, rfl, q3⟩⟩

/-- o.n, o such an exception -/
theorem pe_xval {n : Str} (he : PE X e te) (hb : attributeBase e n X.env (eval e X.env) = eval e X.env := by rfl) :
    PE X (.Attribute e n pos) (fun σ H Q => te σ H fun y H1 => ∃ (a C dx : Addr) (fs : List (Str × V)) (v : V), y = .ref a ∧ XfC X.K C ∧ PySem.W.findIn X.K (.ref C) n = some none ∧ H1 a = some (exo a C (some dx)) ∧ H1 dx = some (exd dx fs) ∧ fs.lookup n = some v ∧ Q v H1) := by
  constructor
  intro pins s σ H Q I h
  refine attr_of hb (thn (he.run pins s σ H _ I h) ?_)
  rintro u s1 ⟨y, H1, I1, ry, a, C, dx, fs, v, rfl, T, nn, ha, hd, hl, q⟩
  cases (show u = Value.ref a from ry)
  obtain ⟨t1, ho⟩ := exo_at I1.hok ha
  obtain ⟨mA, hns, rel⟩ := exd_at I1.hok hd
  obtain ⟨od, hod, look⟩ := lookIn_ns hns
  have rn := rel n
  rw [hl] at rn
  obtain ⟨r, hr, rr⟩ := rn.some_of
  exact HandSPX.exc_get I1.kIn ⟨ho, rfl, rfl, hod⟩ T.ga T.gg T.exC (PySem.W.findObj_own T.hdC nn rfl (by rw [look, hr])) (handed_of rr) ⟨v, H1, I1.tok _, rr, q⟩

/-- an exception of the class at C stands at a -/
inductive XIn (H : Hp) (a C : Addr) : Prop
  | mk (dx : Addr) (u : HO) (φ : Heap → Prop) (ha : H a = some (.ext φ)) (hφ : ∀ h, φ h → ∃ ox, h.get? a = some ox ∧ ox.cls = .ref C ∧ ox.dict = some dx ∧ PySem.W.notCls ox = true)
      (hd : H dx = some u) (hu : (∃ fs, u = exd dx fs) ∨ ∃ fs, u = .xd fs)
theorem XIn.inst {P : Program} {w : World} {H : Hp} {h : Heap} {a C : Addr} (x : XIn H a C) (ok : HOk P w H h) : ∃ ox od, PySem.W.InstAt h a ox C od := by
  obtain ⟨dx, u, φ, ha, hφ, hd, hu⟩ := x
  obtain ⟨ox, g, c, d, n⟩ := hφ h (ok a _ ha).1
  have : ∃ o, h.get? dx = some o := by
    rcases hu with ⟨fs, rfl⟩ | ⟨fs, rfl⟩
    · obtain ⟨mA, ⟨o, _, _, e, _⟩, _⟩ := exd_at ok hd
      exact ⟨o, e⟩
    · obtain ⟨mA, ⟨o, _, _, e, _⟩, _⟩ := ok dx _ hd
      exact ⟨o, e⟩
  obtain ⟨o, ho⟩ := this
  exact ⟨ox, some o, g, c, n, by rw [d]; exact ho⟩
theorem XIn.of_made {H : Hp} {a C dx : Addr} {fs : List (Str × V)} (ha : H a = some (exo a C (some dx))) (hd : H dx = some (exd dx fs)) : XIn H a C :=
  .mk dx _ _ ha (fun h ⟨t, e⟩ => ⟨_, e, rfl, rfl, rfl⟩) hd (.inl ⟨fs, rfl⟩)
theorem XIn.more {H H' : Hp} {a C : Addr} (k : Same H H') (x : XIn H a C) : XIn H' a C := by
  obtain ⟨dx, u, φ, ha, hφ, hd, hu⟩ := x
  exact .mk dx u φ (k _ _ ha) hφ (k _ _ hd) hu

/-- what isinstance asks of the class -/
structure XCls (K : PySem.W.Frag) (C : Addr) : Prop where
  cl : (PySem.W.clsIn K C).isSome = true
  ga : PySem.W.findIn K (.ref C) "__getattribute__" = some (some (.builtin "BaseException.__getattribute__"))
  gt : PySem.W.findIn K (.ref C) "__getattr__" = some none
  sb : PySem.W.subIn K (.ref C) (.type "BaseException") = some true
  cc : PySem.W.findIn K (.ref C) "__class__" = some (some (.builtin "object.__class__"))
  gs : PySem.W.specialIn K (.builtin "object.__class__") "__get__" = some (some (.builtin "getset_descriptor.__get__"))
  tk : PySem.W.takesIn K (.builtin "object.__class__") = some true
  ob : PySem.W.mroIn K C (.type "object") = some true
theorem call_isX : CallR X (.builtin "isinstance") (fun xs H Q => ∃ (a C : Addr) (c : V) (cv : Value) (b : Bool), xs = [.ref a, c] ∧ XIn H a C ∧ XCls X.K C ∧ ClsV c cv ∧ PySem.W.kitOne X.K (.ref C) cv = some b ∧ Q (.bl b) H) := by
  rintro pins s σ H xs us Q I r ⟨a, C, c, cv, b, rfl, x, T, k, hk, q⟩
  obtain ⟨ox, od, J⟩ := x.inst I.hok
  cases r with
  | cons ra rr =>
    cases rr with
    | cons rc rr =>
      cases rr
      rename_i u1 u2
      cases (show u1 = Value.ref a from ra)
      have e2 := k.eq rc
      subst e2
      exact PySem.W.kia_one (PySem.W.kitx_exc T.cl T.ga T.gt T.sb T.cc T.gs T.tk T.ob) I.kIn J hk (fun z => nomatch z) fun tk => ⟨.bl b, H, I.tok tk, rfl, q⟩
end
end Nv
set_option Elab.async false
set_option linter.all false
set_option maxRecDepth 100000
set_option maxHeartbeats 4000000
/-! try with several except clauses, each with a name or none. -/
namespace Nv
open PySem PySem.Spec PyProof.Rows L2

/-- a clause: its class, its name's slot, its suite's reading -/
abbrev Clause := Value × Option Nat × (Addr → Value → Option Addr → TS)
/-- behind a suite its name's slot is empty -/
def blank (D : Ends) (i : Nat) : Ends :=
  { nx := fun σ H => D.nx (σ.set i none) H, rt := D.rt, bk := fun σ H => D.bk (σ.set i none) H, ct := fun σ H => D.ct (σ.set i none) H }
/-- what the clauses wish -/
def wHds (K : PySem.W.Frag) (Wout : WX) (D : Ends) : List Clause → WX
  | [] => Wout
  | (c, i, ts) :: r => fun cls d σ H => ∃ b, PySem.W.exmOne K cls c = some b ∧
      (b = true → ∀ a, H a = none → match i with
        | none => ts a cls d D σ H
        | some j => ts a cls d (blank D j) (σ.set j (some (.ref a))) H) ∧
      (b = false → wHds K Wout D r cls d σ H)
/-- a suite keeps its reading, whatever exception it holds -/
def SuiteOk (X : Cx) (suite : List Stmt) (ts : Addr → Value → Option Addr → TS) : Prop :=
  ∀ (a : Addr) (oe : Obj) (cls : Value) (d : Option Addr) (pn : List (Addr × Obj)), Zc cls d oe → (∃ vs, oe.data = .fields vs) → X.base.get? a = none → PSs (X.suite a ((a, oe) :: pn)) suite (ts a cls d)
inductive Hds (X : Cx) : List ExceptHandler → List Clause → Prop
  | nil : Hds X [] []
  | bare {x : Str} {c : Value} {ts : Addr → Value → Option Addr → TS} {b₀ : Stmt} {suite : List Stmt} {p p' : Pos} {hds : List ExceptHandler} {l : List Clause}
      (nm : Names X x c) (su : SuiteOk X (b₀ :: suite) ts) (r : Hds X hds l) : Hds X (.ExceptHandler (some (.Name x p)) none (b₀ :: suite) p' :: hds) ((c, none, ts) :: l)
  | named {x n : Str} {i : Nat} {c : Value} {ts : Addr → Value → Option Addr → TS} {b₀ : Stmt} {suite : List Stmt} {p p' : Pos} {hds : List ExceptHandler} {l : List Clause}
      (nm : Names X x c) (hi : X.N[i]? = some n) (hl : X.env.kindOf n = some .local) (su : SuiteOk X (b₀ :: suite) ts) (r : Hds X hds l) :
      Hds X (.ExceptHandler (some (.Name x p)) (some n) (b₀ :: suite) p' :: hds) ((c, some i, ts) :: l)

section
variable {X : Cx} {pins : List (Addr × Obj)} {σ : L2.St} {H : Hp} {a : Addr} {cls : Value} {d : Option Addr} {B : Heap} {sI s : Shared}
/-- an exception stands caught -/
structure Caught (X : Cx) (pins : List (Addr × Obj)) (σ : L2.St) (H : Hp) (a : Addr) (cls : Value) (d : Option Addr) (B : Heap) (sI s : Shared) : Prop where
  inv0 : Inv X pins σ H sI
  gr : ∀ b o, sI.heap.get? b = some o → b ∉ frs X.stack → B.get? b = some o
  up : sI.heap.UpToSlots s.heap
  os : s.os = sI.os
  ag : AllBare s.gens
  na : H a = none
  fl : HandSPX.FlyingZ B (X.env :: X.outer) a (Zc cls d) s.heap
theorem Caught.inv (z : Caught X pins σ H a cls d B sI s) : Inv X pins σ H s := z.inv0.landed z.gr z.fl.1 z.up z.os z.ag
theorem Caught.again (z : Caught X pins σ H a cls d B sI s) {h : Heap} (fl : HandSPX.FlyingZ B (X.env :: X.outer) a (Zc cls d) h) (u : s.heap.UpToSlots h) : Caught X pins σ H a cls d B sI { s with heap := h } :=
  ⟨z.inv0, z.gr, z.up.trans u, z.os, z.ag, z.na, fl⟩
theorem Caught.apart (z : Caught X pins σ H a cls d B sI s) : a ∉ frs (X.env :: X.outer) := by
  obtain ⟨oe, vs, he, _, hd⟩ := z.fl.there
  intro hm
  obtain ⟨_, o, ho, nf⟩ := z.fl.2.2.1.mem hm
  rw [he] at ho
  cases ho
  exact nf _ hd
theorem Caught.notBase (z : Caught X pins σ H a cls d B sI s) : X.base.get? a = none := by
  cases q : X.base.get? a with
  | none => rfl
  | some o =>
    have h1 := (z.inv0.bs a o q).1
    have h2 : a ∉ frs X.stack := fun hm => by
      rcases List.mem_cons.mp (z.inv0.stkSub a hm) with e | hf
      · exact absurd (Nat.lt_of_lt_of_le (Heap.lt_size q) z.inv0.ok.bsz) (by rw [e]; exact Nat.not_lt.mpr z.inv0.ok.above)
      · exact z.inv0.ok.nofr q hf
    exact absurd (z.gr a o h1 h2) (by rw [z.fl.2.1]; exact fun y => nomatch y)
theorem Caught.suite (z : Caught X pins σ H a cls d B sI s) (hf : X.env.frame = some X.env.locals) :
    ∃ oe, s.heap.get? a = some oe ∧ Zc cls d oe ∧ (∃ vs, oe.data = .fields vs) ∧ Inv (X.suite a ((a, oe) :: (X.pn ++ pins))) [] σ H s := by
  obtain ⟨oe, vs, he, hz, hd⟩ := z.fl.there
  have ap := z.apart
  have e0 : frs (X.env :: X.outer) = X.env.locals :: frs X.outer := by
    unfold frs
    rw [List.filterMap_cons, hf]
  rw [e0] at ap
  exact ⟨oe, he, hz, ⟨vs, hd⟩, z.inv.suite he hd z.na (fun e => ap (by rw [e]; exact List.mem_cons_self)) fun hm => ap (List.mem_cons_of_mem _ hm)⟩

variable {Wout : WX} {D : Ends}
theorem handled_by (hs : X.stack = X.env :: X.outer) (hf : X.env.frame = some X.env.locals) (hN : X.N.Nodup) (tk : Takes X Wout) {hds : List ExceptHandler} {l : List Clause} (hh : Hds X hds l) :
    ∀ s, Caught X pins σ H a cls d B sI s → wHds X.K Wout D l cls d σ H → wpAny (model X.prog X.w) X.A (handleBy (.ref a) X.env hds) (SP X pins D) X.xe s := by
  have look : ∀ {s : Shared} {x : Str} {c : Value} {p : Pos} {R : Value → Shared → Prop} {E1 : Value → Shared → Prop}, Caught X pins σ H a cls d B sI s → Names X x c → R c s →
      wpAny (model X.prog X.w) (X.A.mark (some (.ref a))) (eval (.Name x p) X.env) R E1 s := by
    intro s x c p R E1 z nm q
    obtain ⟨oe, _, _, _, S⟩ := z.suite hf
    obtain ⟨g, nd, h | ⟨h, hv, nn⟩⟩ := nm
    · exact ld_glob (X := X.suite a ((a, oe) :: (X.pn ++ pins))) S g h q nd
    · exact ld_blt (X := X.suite a ((a, oe) :: (X.pn ++ pins))) S g h hv q nn nd
  have asks : ∀ {s : Shared} {c : Value} {b : Bool}, Caught X pins σ H a cls d B sI s → PySem.W.exmOne X.K cls c = some b →
      PySem.W.Looks (model X.prog X.w) s.heap (excMatches (.ref a) c) b := by
    intro s c b z e
    obtain ⟨oe, he, hz, _, _⟩ := z.suite hf
    exact PySem.W.exm_one (M := model X.prog X.w) z.inv.kIn (fun A' Q' E' s' k q => wpAny_typeOf_ref (k _ _ he) (by rw [hz.1]; exact q)) e
  have ok := fun (s : Shared) (z : Caught X pins σ H a cls d B sI s) => z.inv0.ok
  induction hh with
  | nil =>
    intro s z w
    obtain ⟨_, _, _, oe, vs, T, _, _, he, _, hd, h1, _⟩ := id z.fl
    have up : wpAny (model X.prog X.w) X.A (setFlight (.ref a) X.env.frame) (fun _ s4 => wpAny (model X.prog X.w) X.A (throw (.ref a) : Sem Flow) (SP X pins D) X.xe s4) X.xe s := by
      rw [hf]
      refine HandSPX.setFlight_upZ z.fl fun h4 held u4 => wpAny_throw (tk _ _ ?_)
      exact ⟨a, B, sI, pins, σ, H, cls, d, rfl, z.inv0, z.gr, z.up.trans u4, .inr (.inr (by rw [hs]; exact held)), z.na, z.os, z.ag, w⟩
    refine wpAny_handleBy_nil ?_
    unfold PySem.passOn
    refine wpAny_bind (wpAny_field he hd h1 ?_)
    rw [if_neg (by simp)]
    first | exact wpAny_bind up | exact wpAny_bind (wpAny_pure (wpAny_bind up))
  | bare nm su r ih =>
    intro s z w
    obtain ⟨b, e, yes, no⟩ := w
    refine wpAny_handleBy_cons (codeAny_handlers_test (look z nm ((asks z e).here ?_))) (by intro q; cases q)
    rcases b with _ | _
    · exact ih s z (no rfl)
    refine codeAny_handlers_suite (HandSPX.lands_againZ z.fl fun h4 fl4 u4 => ?_)
    obtain ⟨oe, he, hz, hv, S⟩ := (z.again fl4 u4).suite hf
    refine wpAny_mono ((su a oe cls d (X.pn ++ pins) hz hv z.notBase).run [] _ σ H D S (yes rfl a z.na)) ?_ fun _ _ y => y.elim
    rintro (_ | _ | _ | u) s6 q
    · obtain ⟨σ6, H6, S6, q6⟩ := q
      exact ⟨σ6, H6, S6.unsuite (ok s z), q6⟩
    · obtain ⟨σ6, H6, S6, q6⟩ := q
      exact ⟨σ6, H6, S6.unsuite (ok s z), q6⟩
    · obtain ⟨σ6, H6, S6, q6⟩ := q
      exact ⟨σ6, H6, S6.unsuite (ok s z), q6⟩
    · obtain ⟨v6, σ6, H6, S6, r6, q6⟩ := q
      exact ⟨v6, σ6, H6, S6.unsuite (ok s z), r6, q6⟩
  | named nm hi hl su r ih =>
    intro s z w
    obtain ⟨b, e, yes, no⟩ := w
    refine wpAny_handleBy_cons (codeAny_handlers_test (look z nm ((asks z e).here ?_))) (by intro q; cases q)
    rcases b with _ | _
    · exact ih s z (no rfl)
    refine codeAny_handlers_suite_as (HandSPX.lands_againZ z.fl fun h4 fl4 u4 => ?_)
    obtain ⟨oe, he, hz, hv, S⟩ := (z.again fl4 u4).suite hf
    refine store_ok (X := X.suite a ((a, oe) :: (X.pn ++ pins))) (v := .ref a) S hN hi (.inl hl) rfl (fun s5 S5 => ?_) (.inr hl)
    refine wpAny_mono ((su a oe cls d (X.pn ++ pins) hz hv z.notBase).run [] s5 _ H _ S5 (yes rfl a z.na)) ?_ fun _ _ y => y.elim
    have wipes : ∀ {σ6 : L2.St} {H6 : Hp} {s6 : Shared} {R : Shared → Prop} {p' : Pos}, Inv (X.suite a ((a, oe) :: (X.pn ++ pins))) [] σ6 H6 s6 → (∀ s7, Inv X pins (σ6.set _ none) H6 s7 → R s7) →
        wpAny (model X.prog X.w) X.A (do bindName X.env _ .none; unbindBehindTheSuite X.env _ p') (fun _ s7 => R s7) X.xe s6 := fun S6 q => gone_ok (S6.unsuite (ok s z)) hN hi hl q
    rintro (_ | _ | _ | u) s6 q
    · obtain ⟨σ6, H6, S6, q6⟩ := q
      exact wipes S6 fun s7 J => ⟨_, H6, J, q6⟩
    · obtain ⟨σ6, H6, S6, q6⟩ := q
      exact wipes S6 fun s7 J => ⟨_, H6, J, q6⟩
    · obtain ⟨σ6, H6, S6, q6⟩ := q
      exact wipes S6 fun s7 J => ⟨_, H6, J, q6⟩
    · obtain ⟨v6, σ6, H6, S6, r6, q6⟩ := q
      exact wipes S6 fun s7 J => ⟨v6, _, H6, J, r6, q6⟩
end

/-- try: body, then the clauses -/
theorem ps_try_hds {X : Cx} {body : List Stmt} {h₀ : ExceptHandler} {hds : List ExceptHandler} {l : List Clause} {pos : Pos} {tb : WX → TS} {Wout : WX}
    (hs : X.stack = X.env :: X.outer) (hf : X.env.frame = some X.env.locals) (hN : X.N.Nodup) (tk : Takes X Wout)
    (hb : ∀ (W : WX) (pn : List (Addr × Obj)) (xe : Value → Shared → Prop), Takes (X.tr pn xe) W → PassesOwn (model X.prog X.w) X.A X.env xe → PSs (X.tr pn xe) body (tb W))
    (hh : Hds X (h₀ :: hds) l) : PS X (.Try body (h₀ :: hds) [] [] pos) (fun D σ H => tb (wHds X.K Wout D l) D σ H) := by
  constructor
  intro pins s σ H D I h
  have ok := I.ok
  let xe : Value → Shared → Prop := fun e s1 => wpAny (model X.prog X.w) X.A (noteFrame e X.env) (fun _ s2 => wpAny (model X.prog X.w) X.A (setFlight e none) (fun _ s3 =>
    wpAny (model X.prog X.w) X.A (handleBy e X.env (h₀ :: hds)) (SP X pins D) X.xe s3) X.xe s2) X.xe s1
  have takes : Takes (X.tr (X.pn ++ pins) xe) (wHds X.K Wout D l) := by
    rintro u s' ⟨a, B, sI, pins', σ', H', cls, d, rfl, J', gr, up, sky, na, os, ag, w⟩
    have J : Inv X pins σ' H' sI := J'.ofTry ok
    rw [show (X.tr (X.pn ++ pins) xe).stack = X.env :: X.outer from hs] at sky
    refine Sky.land Zc.steady (by rw [ok.frames, hs]) hf sky fun h3 fl up3 => ?_
    exact handled_by hs hf hN tk hh _ ⟨J, gr, up.trans up3, os, ag, na, fl⟩ w
  refine wpAny_Try_except (wpAny_mono ((hb _ (X.pn ++ pins) xe takes PassesOwn.looking).run [] s σ H D (I.toTry _) h) ?_ fun _ _ y => y)
  rintro (_ | _ | _ | u) s1 q
  · obtain ⟨σ', H', J, q⟩ := q
    exact wpAny_execs_nil ⟨σ', H', J.ofTry ok, q⟩
  · obtain ⟨σ', H', J, q⟩ := q
    exact ⟨σ', H', J.ofTry ok, q⟩
  · obtain ⟨σ', H', J, q⟩ := q
    exact ⟨σ', H', J.ofTry ok, q⟩
  · obtain ⟨v, σ', H', J, r, q⟩ := q
    exact ⟨v, σ', H', J.ofTry ok, r, q⟩
end Nv
set_option Elab.async false
set_option linter.all false
set_option maxRecDepth 100000
set_option maxHeartbeats 4000000
/-! The same for exceptions that were raised where nothing is handled (their context is None, which the suites may use). -/
namespace NvN
open PySem PySem.Spec PyProof.Rows L2 Nv

/-- a suite keeps its reading, whatever exception it holds -/
def SuiteOk (X : Cx) (suite : List Stmt) (ts : Addr → Value → Option Addr → TS) : Prop :=
  ∀ (a : Addr) (oe : Obj) (cls : Value) (d : Option Addr) (pn : List (Addr × Obj)), L2N.Zn cls d oe → (∃ vs, oe.data = .fields vs) → X.base.get? a = none → PSs (X.suite a ((a, oe) :: pn)) suite (ts a cls d)
inductive Hds (X : Cx) : List ExceptHandler → List Clause → Prop
  | nil : Hds X [] []
  | bare {x : Str} {c : Value} {ts : Addr → Value → Option Addr → TS} {b₀ : Stmt} {suite : List Stmt} {p p' : Pos} {hds : List ExceptHandler} {l : List Clause}
      (nm : Names X x c) (su : SuiteOk X (b₀ :: suite) ts) (r : Hds X hds l) : Hds X (.ExceptHandler (some (.Name x p)) none (b₀ :: suite) p' :: hds) ((c, none, ts) :: l)
  | named {x n : Str} {i : Nat} {c : Value} {ts : Addr → Value → Option Addr → TS} {b₀ : Stmt} {suite : List Stmt} {p p' : Pos} {hds : List ExceptHandler} {l : List Clause}
      (nm : Names X x c) (hi : X.N[i]? = some n) (hl : X.env.kindOf n = some .local) (su : SuiteOk X (b₀ :: suite) ts) (r : Hds X hds l) :
      Hds X (.ExceptHandler (some (.Name x p)) (some n) (b₀ :: suite) p' :: hds) ((c, some i, ts) :: l)

section
variable {X : Cx} {pins : List (Addr × Obj)} {σ : L2.St} {H : Hp} {a : Addr} {cls : Value} {d : Option Addr} {B : Heap} {sI s : Shared}
/-- an exception stands caught -/
structure Caught (X : Cx) (pins : List (Addr × Obj)) (σ : L2.St) (H : Hp) (a : Addr) (cls : Value) (d : Option Addr) (B : Heap) (sI s : Shared) : Prop where
  inv0 : Inv X pins σ H sI
  gr : ∀ b o, sI.heap.get? b = some o → b ∉ frs X.stack → B.get? b = some o
  up : sI.heap.UpToSlots s.heap
  os : s.os = sI.os
  ag : AllBare s.gens
  na : H a = none
  fl : HandSPX.FlyingZ B (X.env :: X.outer) a (L2N.Zn cls d) s.heap
theorem Caught.inv (z : Caught X pins σ H a cls d B sI s) : Inv X pins σ H s := z.inv0.landed z.gr z.fl.1 z.up z.os z.ag
theorem Caught.again (z : Caught X pins σ H a cls d B sI s) {h : Heap} (fl : HandSPX.FlyingZ B (X.env :: X.outer) a (L2N.Zn cls d) h) (u : s.heap.UpToSlots h) : Caught X pins σ H a cls d B sI { s with heap := h } :=
  ⟨z.inv0, z.gr, z.up.trans u, z.os, z.ag, z.na, fl⟩
theorem Caught.apart (z : Caught X pins σ H a cls d B sI s) : a ∉ frs (X.env :: X.outer) := by
  obtain ⟨oe, vs, he, _, hd⟩ := z.fl.there
  intro hm
  obtain ⟨_, o, ho, nf⟩ := z.fl.2.2.1.mem hm
  rw [he] at ho
  cases ho
  exact nf _ hd
theorem Caught.notBase (z : Caught X pins σ H a cls d B sI s) : X.base.get? a = none := by
  cases q : X.base.get? a with
  | none => rfl
  | some o =>
    have h1 := (z.inv0.bs a o q).1
    have h2 : a ∉ frs X.stack := fun hm => by
      rcases List.mem_cons.mp (z.inv0.stkSub a hm) with e | hf
      · exact absurd (Nat.lt_of_lt_of_le (Heap.lt_size q) z.inv0.ok.bsz) (by rw [e]; exact Nat.not_lt.mpr z.inv0.ok.above)
      · exact z.inv0.ok.nofr q hf
    exact absurd (z.gr a o h1 h2) (by rw [z.fl.2.1]; exact fun y => nomatch y)
theorem Caught.suite (z : Caught X pins σ H a cls d B sI s) (hf : X.env.frame = some X.env.locals) :
    ∃ oe, s.heap.get? a = some oe ∧ L2N.Zn cls d oe ∧ (∃ vs, oe.data = .fields vs) ∧ Inv (X.suite a ((a, oe) :: (X.pn ++ pins))) [] σ H s := by
  obtain ⟨oe, vs, he, hz, hd⟩ := z.fl.there
  have ap := z.apart
  have e0 : frs (X.env :: X.outer) = X.env.locals :: frs X.outer := by
    unfold frs
    rw [List.filterMap_cons, hf]
  rw [e0] at ap
  exact ⟨oe, he, hz, ⟨vs, hd⟩, z.inv.suite he hd z.na (fun e => ap (by rw [e]; exact List.mem_cons_self)) fun hm => ap (List.mem_cons_of_mem _ hm)⟩

variable {Wout : WX} {D : Ends}
theorem handled_by (hs : X.stack = X.env :: X.outer) (hf : X.env.frame = some X.env.locals) (hN : X.N.Nodup) (tk : L2N.Takes X Wout) {hds : List ExceptHandler} {l : List Clause} (hh : Hds X hds l) :
    ∀ s, Caught X pins σ H a cls d B sI s → wHds X.K Wout D l cls d σ H → wpAny (model X.prog X.w) X.A (handleBy (.ref a) X.env hds) (SP X pins D) X.xe s := by
  have look : ∀ {s : Shared} {x : Str} {c : Value} {p : Pos} {R : Value → Shared → Prop} {E1 : Value → Shared → Prop}, Caught X pins σ H a cls d B sI s → Names X x c → R c s →
      wpAny (model X.prog X.w) (X.A.mark (some (.ref a))) (eval (.Name x p) X.env) R E1 s := by
    intro s x c p R E1 z nm q
    obtain ⟨oe, _, _, _, S⟩ := z.suite hf
    obtain ⟨g, nd, h | ⟨h, hv, nn⟩⟩ := nm
    · exact ld_glob (X := X.suite a ((a, oe) :: (X.pn ++ pins))) S g h q nd
    · exact ld_blt (X := X.suite a ((a, oe) :: (X.pn ++ pins))) S g h hv q nn nd
  have asks : ∀ {s : Shared} {c : Value} {b : Bool}, Caught X pins σ H a cls d B sI s → PySem.W.exmOne X.K cls c = some b →
      PySem.W.Looks (model X.prog X.w) s.heap (excMatches (.ref a) c) b := by
    intro s c b z e
    obtain ⟨oe, he, hz, _, _⟩ := z.suite hf
    exact PySem.W.exm_one (M := model X.prog X.w) z.inv.kIn (fun A' Q' E' s' k q => wpAny_typeOf_ref (k _ _ he) (by rw [hz.1]; exact q)) e
  have ok := fun (s : Shared) (z : Caught X pins σ H a cls d B sI s) => z.inv0.ok
  induction hh with
  | nil =>
    intro s z w
    obtain ⟨_, _, _, oe, vs, T, _, _, he, _, hd, h1, _⟩ := id z.fl
    have up : wpAny (model X.prog X.w) X.A (setFlight (.ref a) X.env.frame) (fun _ s4 => wpAny (model X.prog X.w) X.A (throw (.ref a) : Sem Flow) (SP X pins D) X.xe s4) X.xe s := by
      rw [hf]
      refine HandSPX.setFlight_upZ z.fl fun h4 held u4 => wpAny_throw (tk _ _ ?_)
      exact ⟨a, B, sI, pins, σ, H, cls, d, rfl, z.inv0, z.gr, z.up.trans u4, .inr (.inr (by rw [hs]; exact held)), z.na, z.os, z.ag, w⟩
    refine wpAny_handleBy_nil ?_
    unfold PySem.passOn
    refine wpAny_bind (wpAny_field he hd h1 ?_)
    rw [if_neg (by simp)]
    first | exact wpAny_bind up | exact wpAny_bind (wpAny_pure (wpAny_bind up))
  | bare nm su r ih =>
    intro s z w
    obtain ⟨b, e, yes, no⟩ := w
    refine wpAny_handleBy_cons (codeAny_handlers_test (look z nm ((asks z e).here ?_))) (by intro q; cases q)
    rcases b with _ | _
    · exact ih s z (no rfl)
    refine codeAny_handlers_suite (HandSPX.lands_againZ z.fl fun h4 fl4 u4 => ?_)
    obtain ⟨oe, he, hz, hv, S⟩ := (z.again fl4 u4).suite hf
    refine wpAny_mono ((su a oe cls d (X.pn ++ pins) hz hv z.notBase).run [] _ σ H D S (yes rfl a z.na)) ?_ fun _ _ y => y.elim
    rintro (_ | _ | _ | u) s6 q
    · obtain ⟨σ6, H6, S6, q6⟩ := q
      exact ⟨σ6, H6, S6.unsuite (ok s z), q6⟩
    · obtain ⟨σ6, H6, S6, q6⟩ := q
      exact ⟨σ6, H6, S6.unsuite (ok s z), q6⟩
    · obtain ⟨σ6, H6, S6, q6⟩ := q
      exact ⟨σ6, H6, S6.unsuite (ok s z), q6⟩
    · obtain ⟨v6, σ6, H6, S6, r6, q6⟩ := q
      exact ⟨v6, σ6, H6, S6.unsuite (ok s z), r6, q6⟩
  | named nm hi hl su r ih =>
    intro s z w
    obtain ⟨b, e, yes, no⟩ := w
    refine wpAny_handleBy_cons (codeAny_handlers_test (look z nm ((asks z e).here ?_))) (by intro q; cases q)
    rcases b with _ | _
    · exact ih s z (no rfl)
    refine codeAny_handlers_suite_as (HandSPX.lands_againZ z.fl fun h4 fl4 u4 => ?_)
    obtain ⟨oe, he, hz, hv, S⟩ := (z.again fl4 u4).suite hf
    refine store_ok (X := X.suite a ((a, oe) :: (X.pn ++ pins))) (v := .ref a) S hN hi (.inl hl) rfl (fun s5 S5 => ?_) (.inr hl)
    refine wpAny_mono ((su a oe cls d (X.pn ++ pins) hz hv z.notBase).run [] s5 _ H _ S5 (yes rfl a z.na)) ?_ fun _ _ y => y.elim
    have wipes : ∀ {σ6 : L2.St} {H6 : Hp} {s6 : Shared} {R : Shared → Prop} {p' : Pos}, Inv (X.suite a ((a, oe) :: (X.pn ++ pins))) [] σ6 H6 s6 → (∀ s7, Inv X pins (σ6.set _ none) H6 s7 → R s7) →
        wpAny (model X.prog X.w) X.A (do bindName X.env _ .none; unbindBehindTheSuite X.env _ p') (fun _ s7 => R s7) X.xe s6 := fun S6 q => gone_ok (S6.unsuite (ok s z)) hN hi hl q
    rintro (_ | _ | _ | u) s6 q
    · obtain ⟨σ6, H6, S6, q6⟩ := q
      exact wipes S6 fun s7 J => ⟨_, H6, J, q6⟩
    · obtain ⟨σ6, H6, S6, q6⟩ := q
      exact wipes S6 fun s7 J => ⟨_, H6, J, q6⟩
    · obtain ⟨σ6, H6, S6, q6⟩ := q
      exact wipes S6 fun s7 J => ⟨_, H6, J, q6⟩
    · obtain ⟨v6, σ6, H6, S6, r6, q6⟩ := q
      exact wipes S6 fun s7 J => ⟨v6, _, H6, J, r6, q6⟩
end

/-- try: body, then the clauses -/
theorem ps_try_hds {X : Cx} {body : List Stmt} {h₀ : ExceptHandler} {hds : List ExceptHandler} {l : List Clause} {pos : Pos} {tb : WX → TS} {Wout : WX}
    (hs : X.stack = X.env :: X.outer) (hf : X.env.frame = some X.env.locals) (hN : X.N.Nodup) (tk : L2N.Takes X Wout)
    (hb : ∀ (W : WX) (pn : List (Addr × Obj)) (xe : Value → Shared → Prop), L2N.Takes (X.tr pn xe) W → PassesOwn (model X.prog X.w) X.A X.env xe → PSs (X.tr pn xe) body (tb W))
    (hh : Hds X (h₀ :: hds) l) : PS X (.Try body (h₀ :: hds) [] [] pos) (fun D σ H => tb (wHds X.K Wout D l) D σ H) := by
  constructor
  intro pins s σ H D I h
  have ok := I.ok
  let xe : Value → Shared → Prop := fun e s1 => wpAny (model X.prog X.w) X.A (noteFrame e X.env) (fun _ s2 => wpAny (model X.prog X.w) X.A (setFlight e none) (fun _ s3 =>
    wpAny (model X.prog X.w) X.A (handleBy e X.env (h₀ :: hds)) (SP X pins D) X.xe s3) X.xe s2) X.xe s1
  have takes : L2N.Takes (X.tr (X.pn ++ pins) xe) (wHds X.K Wout D l) := by
    rintro u s' ⟨a, B, sI, pins', σ', H', cls, d, rfl, J', gr, up, sky, na, os, ag, w⟩
    have J : Inv X pins σ' H' sI := J'.ofTry ok
    rw [show (X.tr (X.pn ++ pins) xe).stack = X.env :: X.outer from hs] at sky
    refine L2N.Sky.land L2N.Zn.steady (by rw [ok.frames, hs]) hf sky fun h3 fl up3 => ?_
    exact handled_by hs hf hN tk hh _ ⟨J, gr, up.trans up3, os, ag, na, fl⟩ w
  refine wpAny_Try_except (wpAny_mono ((hb _ (X.pn ++ pins) xe takes PassesOwn.looking).run [] s σ H D (I.toTry _) h) ?_ fun _ _ y => y)
  rintro (_ | _ | _ | u) s1 q
  · obtain ⟨σ', H', J, q⟩ := q
    exact wpAny_execs_nil ⟨σ', H', J.ofTry ok, q⟩
  · obtain ⟨σ', H', J, q⟩ := q
    exact ⟨σ', H', J.ofTry ok, q⟩
  · obtain ⟨σ', H', J, q⟩ := q
    exact ⟨σ', H', J.ofTry ok, q⟩
  · obtain ⟨v, σ', H', J, r, q⟩ := q
    exact ⟨v, σ', H', J.ofTry ok, r, q⟩
end NvN
set_option Elab.async false
set_option linter.all false
set_option maxRecDepth 100000
set_option maxHeartbeats 4000000
/-! Within an except suite: a list comprehension over a range. -/
namespace Nv
open PySem PySem.Spec PyProof.Rows L2

/-- a block that bears the pins of its def -/
abbrev blkP (X : Cx) (s : Shared) (H : Hp) (scope : Scope) (ce : Env) (fp : List Addr) : Cx := { X.blk s H scope ce fp with pn := X.pn }
section
variable {X : Cx} {pins : List (Addr × Obj)} {σ : L2.St} {H : Hp} {s s' : Shared} {scope : Scope} {ce : Env} {fp : List Addr} {S0 : Shared} {H0 : Hp}
theorem Inv.bear (J : Inv (X.blk S0 H0 scope ce fp) [] σ H s) (pp : ∀ p ∈ X.pn, s.heap.get? p.1 = some p.2 ∧ H p.1 = none ∧ p.1 ≠ ce.locals ∧ p.1 ∉ frs X.stack ∧ ∀ v, p.2.data ≠ .cell v) : Inv (blkP X S0 H0 scope ce fp) [] σ H s := by
  have o := J.ok
  have o' : (blkP X S0 H0 scope ce fp).Ok := { mod := o.mod, kind := o.kind, glob := o.glob, blt := o.blt, above := o.above, inj := o.inj, has := o.has, cab := o.cab, hd := o.hd, frames := o.frames, stk := o.stk, exf := o.exf, bs := o.bs, bsz := o.bsz, noex := o.noex, exfs := o.exfs, funs := o.funs, frf := o.frf }
  exact { ok := o', os := J.os, bare := J.bare, base := J.base, loc := J.loc, cell := J.cell, free := J.free, freeC := J.freeC, pin := fun p hp => pp p (by simpa using hp), hok := J.hok, len := J.len }
end

theorem pe_lcHot {X : Cx} {elt tg iter : Expr} {scope : Scope} {own : List (Str × Nat)} {pos : Pos} {wi : TI} {g : TG} {te : TE} (hot : L2H.HotC X) (hN : X.N.Nodup) (hi : L2H.PIH X tg iter wi) (bk : BlkOk X.N X.env.scope scope own)
    (hg : ∀ (s : Shared) (H : Hp) (C : Addr) (cl : List (Str × Addr)) (fp : List Addr), PG (blkP X s H scope (compEnvC scope cl C X.env) fp) tg g)
    (he : ∀ (s : Shared) (H : Hp) (C : Addr) (cl : List (Str × Addr)) (fp : List Addr), PE (blkP X s H scope (compEnvC scope cl C X.env) fp) elt te) (hs : ∀ x, foldedSetIterable iter X.env x = pure x := by intro _; rfl) :
    PE X (.ListComp elt [⟨tg, iter, [], 0⟩] scope pos) (tLc wi g tYes te (own.map (·.2))) := by
  constructor
  intro pins s σ H Q I h
  rw [eval_ListComp]
  have caps : ∀ y ∈ scope.names, y.2 = .free → ∃ c, X.env.cells.lookup y.1 = some c := by
    intro y hy e
    rcases bk.free y hy e with z | z
    · exact I.ok.has _ (.inl z)
    · exact I.ok.has _ (.inr z)
  refine wpAny_comprehension_free rfl hs (closure_ok caps) bk.kind (fun y hy e => by rw [bk.uniq y hy, e]) (thn (hi.run pins s σ H _ I h) fun _ s1 hx => thn hx ?_)
  rintro itv s2 ⟨it, fp, tn, J, H2, rfl, I2, T, st2, f2, q⟩
  refine wpAny_newObj_type (newEnv_comp ?_) (by show 0 ≤ sizeLine; decide)
  -- the new list stands at D, the block's names at C
  obtain ⟨D, hD⟩ : ∃ D, D = s2.heap.objs.size := ⟨_, rfl⟩
  rw [← hD]
  have nD : H2 D = none := I2.hok.fresh (Nat.le_of_eq hD.symm)
  obtain ⟨W, ⟨m0, w0⟩, turn⟩ := q D nD
  obtain ⟨s3, hs3⟩ : ∃ s3 : Shared, s3 = { s2 with heap := s2.heap.push { cls := .type "list", data := .seq ([] : List Value).toArray } } := ⟨_, rfl⟩
  rw [← hs3]
  have k23 : ∀ b o, s2.heap.get? b = some o → s3.heap.get? b = some o := fun b o e => by rw [hs3]; exact Heap.get?_push_of_some _ e
  have I3 : Inv X pins σ (upd H2 D (.lst [])) s3 := by
    rw [hs3]
    refine I2.laid (t' := s2.toks) (fun b o e => Heap.get?_push_of_some _ e) (Nat.le_of_eq hD.symm) ⟨Nat.zero_le _, [], 0, .nil, ?_⟩
    rw [hD]
    exact Heap.get?_push_size _ rfl
  have old : ∀ b ∈ fp, b < s2.heap.objs.size := fun b hb => let ⟨_, e, _⟩ := T.obj _ _ st2 b hb; Heap.lt_size e
  have f3 : ∀ b ∈ fp, FpOk X pins (upd H2 D (.lst [])) b ∧ b < s3.heap.objs.size := by
    intro b hb
    obtain ⟨g0, g1⟩ := f2 b hb
    refine ⟨⟨?_, g1⟩, ?_⟩
    · rw [upd_ne (by rw [hD]; exact Nat.ne_of_lt (old b hb))]
      exact g0
    · rw [hs3]
      show b < (s2.heap.push _).objs.size
      rw [Heap.size_push]
      exact Nat.lt_succ_of_lt (old b hb)
  have st3 : tn 0 s3.heap := T.keep _ _ _ st2 fun b _ o e => k23 b o e
  obtain ⟨H3, hH3⟩ : ∃ H3 : Hp, H3 = upd H2 D (.lst []) := ⟨_, rfl⟩
  rw [← hH3] at I3 f3 w0
  have I4 := block_start I3 bk hN f3
  have pg := hg s3 H3 s3.heap.objs.size (cellsFrom (s3.heap.objs.size + 1) scope.names (cloFrom X.env.cells scope.names [])) fp
  have pe := he s3 H3 s3.heap.objs.size (cellsFrom (s3.heap.objs.size + 1) scope.names (cloFrom X.env.cells scope.names [])) fp
  show codeAny _ _ (.compStart (.ListComp elt [⟨tg, iter, [], 0⟩] scope pos) 0 (.ref it) (.ref D) (compEnvC scope (cellsFrom (s3.heap.objs.size + 1) scope.names (cloFrom X.env.cells scope.names [])) s3.heap.objs.size X.env))
    (compPost (model X.prog X.w) X.A X.xe none (EP X pins σ Q) (.ref D) s3.heap.objs.size) { s3 with heap := pushCells (s3.heap.push { cls := .type "dict", data := .dict #[] }) scope.names }
  obtain ⟨ce, hce⟩ : ∃ ce, ce = compEnvC scope (cellsFrom (s3.heap.objs.size + 1) scope.names (cloFrom X.env.cells scope.names [])) s3.heap.objs.size X.env := ⟨_, rfl⟩
  rw [← hce] at I4 pg pe ⊢
  have cL : ce.locals = s3.heap.objs.size := by rw [hce]; rfl
  obtain ⟨s4, hs4⟩ : ∃ s4 : Shared, s4 = { s3 with heap := pushCells (s3.heap.push { cls := .type "dict", data := .dict #[] }) scope.names } := ⟨_, rfl⟩
  rw [← hs4] at I4 ⊢
  have k34 : ∀ b o, s3.heap.get? b = some o → s4.heap.get? b = some o := fun b o e => by rw [hs4]; exact pushCells_keeps _ _ _ _ (Heap.get?_push_of_some _ e)
  have I5 : Inv (blkP X s3 H3 scope ce fp) [] (wipe σ (own.map (·.2))) H3 s4 := by
    refine Inv.bear I4 fun p hp => ?_
    obtain ⟨e1, e2, e3, e4, e5⟩ := I3.pin p (List.mem_append_left _ hp)
    refine ⟨k34 _ _ e1, e2, ?_, fun hm => ?_, e5⟩
    · rw [cL]
      exact Nat.ne_of_lt (Heap.lt_size e1)
    · rcases List.mem_cons.mp (I3.stkSub _ hm) with z | z
      · exact e3 z
      · exact e4 z
  have hotB : L2H.HotC (blkP X s3 H3 scope ce fp) := hot
  have st4 : tn 0 s4.heap := T.keep _ _ _ st3 fun b _ o e => k34 b o e
  have steady : ∀ {σ' : L2.St} {H' : Hp} {s' : Shared}, Inv (blkP X s3 H3 scope ce fp) [] σ' H' s' → (∀ b ∈ fp, H' b = none) → ∀ b ∈ fp, FpOk (blkP X s3 H3 scope ce fp) [] H' b := by
    intro σ' H' s' Z hn b hb
    refine ⟨hn b hb, (Z.ok.exf b hb).1, Z.ok.exfs b hb, .inl hb, fun x c e => (Z.ok.exf b hb).2 x c e, fun p hp => ?_⟩
    obtain ⟨_, _, _, _, _, last⟩ := (f3 b hb).1
    exact last p (List.mem_append_left _ (by simpa using hp))
  have loop : codeAny (model X.prog X.w) X.A (.compLoop (.ListComp elt [⟨tg, iter, [], 0⟩] scope pos) 0 (.ref it) (.ref D) ce) (compPost (model X.prog X.w) X.A X.xe none (EP X pins σ Q) (.ref D) s3.heap.objs.size) s4 := by
    refine compLoop_any (fun n z => ∃ i H', Inv (blkP X s3 H3 scope ce fp) [] (wipe σ (own.map (·.2))) H' z ∧ tn i z.heap ∧ (∀ b ∈ fp, H' b = none) ∧ W i n H') ?_ m0 ⟨0, H3, I5, st4, fun b hb => (f3 b hb).1.1, w0⟩
    rintro n s5 ⟨i, H5, J5, st5, n5, w5⟩
    rcases turn i n H5 w5 with ⟨stop, ends⟩ | ⟨go, Nx, hNx, step⟩
    · refine thnF (T.done (blkP X s3 H3 scope ce fp) rfl rfl rfl hotB i [] s5 _ H5 (fun _ _ => False) J5 (steady J5 n5) st5 stop) ?_
      rintro r s6 ⟨rfl, J6⟩
      have J7 : Inv X pins σ H5 s6 := I3.call' (ch := fp) J6.os J6.base J6.hok J6.bare fun b hb => by
        obtain ⟨_, z1, _, z3, z4, z5⟩ := (f3 b hb).1
        exact ⟨z3, z1, z4, z5⟩
      have fC : H5 s3.heap.objs.size = none := by
        have z : H5 ce.locals = none := J6.free
        rwa [cL] at z
      obtain ⟨m, hn, _⟩ := J6.loc
      have hn' : s6.heap.Ns ce.locals m := hn
      rw [cL] at hn'
      obtain ⟨y0, y1, y2, y3, y4, y5⟩ := I3.fpOk (H' := H5) (Nat.le_refl _) fC
      exact ⟨m, hn', fun h'' sb => ⟨.ref D, H5, J7.turned (t' := s6.toks) (fun b o hb e => (sb.2 b hb).trans e) y0 y1 y3 y4 y5, rfl, ends⟩⟩
    · refine thnF (T.item (blkP X s3 H3 scope ce fp) rfl rfl rfl hotB i [] s5 _ H5 (fun _ _ => False) J5 (steady J5 n5) st5 go) ?_
      rintro r s6 ⟨u, rfl, h6⟩
      refine thnF h6 ?_
      rintro _ s7 ⟨x, H7, J7, r7, y7, st7, n7⟩
      have P7 := J7.pinned (steady J7 n7) (T.obj _ _ st7)
      refine thnF (pg.run _ s7 _ H7 x u _ P7 r7 (step x H7 y7)) ?_
      rintro _ s8 ⟨σ8, H8, J8, same8, q8⟩
      refine thnF (wpAny_tests_nil (Q := fun (b : Bool) z => b = true ∧ z = s8) ⟨rfl, rfl⟩) ?_
      rintro b s9 ⟨rfl, rfl⟩
      have q9 : te σ8 H8 _ := q8
      rw [if_pos rfl]
      refine thnF (pe.run _ _ σ8 H8 _ J8 q9) ?_
      rintro z s10 ⟨yv, H10, J10, r10, acc, hD10, hz10, nx⟩
      refine app_ok (X := blkP X s3 H3 scope ce fp) J10 hD10 hz10 r10 fun s11 J11 => ?_
      obtain ⟨m', hm, w'⟩ := hNx _ nx
      have pinB : ∀ b ∈ fp, ∀ o, s7.heap.get? b = some o → s11.heap.get? b = some o ∧ (upd H10 D (.lst (acc ++ [yv]))) b = none := fun b hb o e =>
        let z := J11.pin (b, o) (List.mem_append_right _ (List.mem_append_right _ (mem_pinsAt hb e)))
        ⟨z.1, z.2.1⟩
      refine ⟨m', hm, i + 1, _, (J11.unpinned (pins := [])).weak (by rw [← same8, wipe_length]) (fun j v e => ?_), T.keep _ _ _ st7 fun b hb o e => (pinB b hb o e).1, fun b hb => ?_, w'⟩
      · rw [← same8] at e
        exact (wipe_some e).1
      · obtain ⟨o, e, _⟩ := T.obj _ _ st7 b hb
        exact (pinB b hb o e).2
  exact codeAny_compStart_list loop (T.self X.A 0 _ _ _ st4 loop)
end Nv
set_option Elab.async false
set_option linter.all false
set_option maxRecDepth 100000
set_option maxHeartbeats 4000000
/-! A def that may be called anywhere, within an except suite too; there its argument may be the exception that is handled. -/
namespace Nv
open PySem PySem.Spec PyProof.Rows L2

/-- the context of such a def's body -/
abbrev cxA (P : Program) (w : World) (K : PySem.W.Frag) (mg : Str → Option Value) (base : Heap) (N : List Str) (qual : Str) (scope : Scope) (f : Addr) (cd : Value) (A : Around) (outer : List Env) (s : Shared) (H : Hp) : Cx :=
  { cxOf CX0 P w K mg base N qual scope f cd A outer s H E0 with calm := false, xe := fun _ _ => False }
structure FnA (P : Program) (w : World) (K : PySem.W.Frag) (mg : Str → Option Value) (base : Heap) (k : Nat) (f : Addr) (fd : FuncData) (ps : List Str) (sp : Sp) : Prop where
  many : ∀ vs H Q E, sp vs H Q E → vs.length = ps.length
  does : ∀ (A : Around) (outer : List Env) (s : Shared) (H : Hp) (ar : Args) (us : List Value) (vs : List V) (Q : VK),
    L2H.RoomH k A → Env0 P w K mg base A outer s H → BindsTo s fd ar (ps.zip us) → Vals vs us → sp vs H Q E0 →
    codeAny (model P w) A (.call (.ref f) ar) (CR CX0 outer P w H s Q E0) s

section
variable {P : Program} {w : World} {K : PySem.W.Frag} {mg : Str → Option Value} {base : Heap}
theorem FnA.made {x qual : Str} {st : Stmt} {f : Addr} {fd : FuncData} {N ps : List Str} {k : Nat} {sp : Sp} (F : Fun K x qual st f fd) (S : FnScope N ps (defScope st))
    (many : ∀ vs H Q E, sp vs H Q E → vs.length = ps.length)
    (body : ∀ (cdv : Value) (A : Around) (outer : List Env) (s : Shared) (H : Hp) (vs : List V) (Q : VK),
      L2H.RoomH k (A.deeper (envOfC qual (defScope st) s.heap.objs.size f cdv)) → sp vs H Q E0 →
      ∃ t, PSs (cxA P w K mg base N qual (defScope st) f cdv A outer s H) (defBody st) t ∧ t { nx := fun _ H' => Q .non H', rt := Q } (start N vs) H) :
    FnA P w K mg base (k + 1) f fd ps sp := by
  obtain ⟨oc, od, kV, doc, pm, an, cdv, ct, osl, rfl, lk, hcd⟩ := F.ex
  constructor
  · exact many
  intro A outer s H ar us vs Q room env hb rel want
  obtain ⟨t, der, hq⟩ := body cdv A outer s H vs Q (room.deeper _) want
  have inK : K.In s.heap := env.mod.kin.keeps fun b o z => (env.bs b o z).1
  have nolim : s.heap.NoLimit := env.mod.nolimit.keeps fun b o z => (env.bs b o z).1
  refine Att.call_fn inK nolim lk hcd room.depth hb (all_kinds S us) (fun s1 ic => ?_) S.co S.gen S.kind
  -- the state at the entry, read with nothing handled; then as it is
  have env' : Env0 P w K mg base { A with handled := none } outer s H := { frames := env.frames, mod := env.mod, bs := env.bs, bsz := env.bsz, funs := env.funs, frf := env.frf, hok := env.hok, bare := env.bare }
  have J := inv_start (CX := CX0) (E := E0) (N := N) S rfl env' (many _ _ _ _ want) rel ic
  have o := J.ok
  have o' : (cxA P w K mg base N qual (defScope st) f cdv A outer s H).Ok := { mod := o.mod, kind := o.kind, glob := o.glob, blt := o.blt, above := o.above, inj := o.inj, has := o.has, cab := o.cab, hd := fun z => Bool.noConfusion (show false = true from z), frames := o.frames, stk := o.stk, exf := o.exf, bs := o.bs, bsz := o.bsz, noex := o.noex, exfs := o.exfs, funs := o.funs, frf := o.frf }
  have J' : Inv (cxA P w K mg base N qual (defScope st) f cdv A outer s H) [] (start N vs) H s1 := { ok := o', os := J.os, bare := J.bare, base := J.base, loc := J.loc, cell := J.cell, free := J.free, freeC := J.freeC, pin := J.pin, hok := J.hok, len := J.len }
  refine wpAny_mono (der.run [] s1 _ H _ J' hq) ?_ fun _ _ z => z.elim
  rintro (_ | _ | _ | u) s' z
  · obtain ⟨σ', H', Z, q⟩ := z
    exact ⟨.non, H', Z.os, Z.bare, Z.base, Z.hok, rfl, q⟩
  · obtain ⟨_, _, _, q⟩ := z
    exact q.elim
  · obtain ⟨_, _, _, q⟩ := z
    exact q.elim
  · obtain ⟨v, σ', H', Z, r, q⟩ := z
    exact ⟨v, H', Z.os, Z.bare, Z.base, Z.hok, r, q⟩
end

section
variable {X : Cx} {k : Nat} {f : Addr} {fd : FuncData} {y : Str} {sp : Sp} {x : Str} {p pos : Pos} {e : Expr} {te : TE}
def oneA (R : V → Hp → Prop) : List V → Hp → Prop
  | [v], H => R v H
  | _, _ => False
theorem oneA_of {R : V → Hp → Prop} {vs : List V} {H : Hp} (h : oneA R vs H) : ∃ v, vs = [v] ∧ R v H := by
  rcases vs with _ | ⟨v, _ | ⟨_, _⟩⟩
  · exact h.elim
  · exact ⟨v, rfl, h⟩
  · exact h.elim
/-- x(e) -/
theorem pe_callA (F : FnA X.prog X.w X.K X.mg X.base k f fd [y] sp) (hr : L2H.RoomH k X.A) (hg : Gl X x) (hm : X.mg x = some (.ref f)) (hk : PySem.W.keepIn X.K (.ref f) = true) (hb : Binds X.K fd [y] []) (he : PE X e te)
    (hs : starEach (e :: []) X.env = (false, eval e X.env) :: starEach [] X.env := by rfl) (hpl : (backTo pos (starEach [] X.env)).any (·.1) = false := by rfl) (hdb : (x == ("__debug__" : Str)) = false := by decide) :
    PE X (.Call (.Name x p) [e] [] pos) (fun σ H Q => te σ H fun v H1 => sp [v] H1 Q E0) := by
  constructor
  intro pins s σ H Q I h
  refine wpAny_Call_Name_kw (ld_glob I hg hm (PySem.W.callWith_K (h₀ := X.base) I.ok.mod.kin hk (thn ((pa_cons he pa_nil hs).run pos pins s σ H (oneA fun v H1 => sp [v] H1 Q E0) I h) ?_) hs hpl) hdb)
  rintro us s1 ⟨vs, H1, I1, r, q0⟩
  obtain ⟨v, rfl, q⟩ := oneA_of q0
  have b := hb s1 us I1.kIn (by rw [List.append_nil, ← r.length]; rfl)
  rw [List.append_nil] at b
  refine ⟨I1.kIn, wpAny_call (codeAny_mono (F.does X.A X.stack s1 H1 ⟨us, []⟩ us [v] Q hr I1.env0 b r q) ?_)⟩
  rintro (z | (_ | _ | _ | u)) s2 hz
  · exact hz.elim
  · exact hz.elim
  · exact hz.elim
  · exact hz.elim
  · exact I1.after hz
/-- the very object at a -/
def pinO (a : Addr) (oe : Obj) : HO := .ext fun h => h.get? a = some oe
theorem pinO_ne {a : Addr} {oe : Obj} : (∀ xs, pinO a oe ≠ .tup xs) ∧ (∀ o u, pinO a oe ≠ .frz o u) ∧ (∀ ps, pinO a oe ≠ .tbl ps) ∧ ∀ y, pinO a oe ≠ .own y := by
  refine ⟨fun xs z => ?_, fun o u z => ?_, fun ps z => ?_, fun y z => ?_⟩
  · exact nomatch (show HO.ext _ = HO.tup xs from z)
  · exact nomatch (show HO.ext _ = HO.frz o u from z)
  · exact nomatch (show HO.ext _ = HO.tbl ps from z)
  · exact nomatch (show HO.ext _ = HO.own y from z)
/-- x(n), n the exception that is handled -/
theorem pe_callHot {a : Addr} {oe : Obj} {pn : List (Addr × Obj)} (nb : X.base.get? a = none) (F : FnA X.prog X.w X.K X.mg X.base k f fd [y] sp) (hr : L2H.RoomH k (X.A.mark (some (.ref a)))) (hg : Gl X x) (hm : X.mg x = some (.ref f)) (hk : PySem.W.keepIn X.K (.ref f) = true)
    (hb : Binds X.K fd [y] []) (he : PE (X.suite a ((a, oe) :: pn)) e te)
    (hs : starEach (e :: []) X.env = (false, eval e X.env) :: starEach [] X.env := by rfl) (hpl : (backTo pos (starEach [] X.env)).any (·.1) = false := by rfl) (hdb : (x == ("__debug__" : Str)) = false := by decide) :
    PE (X.suite a ((a, oe) :: pn)) (.Call (.Name x p) [e] [] pos) (fun σ H Q => te σ H fun v H1 => v = .ref a ∧ (H1 a = none → sp [.ref a] (upd H1 a (pinO a oe)) (fun r H2 => H2 a = some (pinO a oe) ∧ Q r (del H2 a)) E0)) := by
  constructor
  intro pins s σ H Q I h
  refine wpAny_Call_Name_kw (ld_glob I hg hm (PySem.W.callWith_K (h₀ := X.base) I.ok.mod.kin hk (thn ((pa_cons he pa_nil hs).run pos pins s σ H (oneA fun v H1 => v = .ref a ∧ (H1 a = none → sp [.ref a] (upd H1 a (pinO a oe)) (fun r H2 => H2 a = some (pinO a oe) ∧ Q r (del H2 a)) E0)) I h) ?_) hs hpl) hdb)
  rintro us s1 ⟨vs, H1, I1, r, q0⟩
  obtain ⟨v, rfl, rfl, q⟩ := oneA_of q0
  obtain ⟨ha, na, nL, nF, nc⟩ := I1.pin (a, oe) (List.mem_append_left _ List.mem_cons_self)
  have q := q na
  have b := hb s1 us I1.kIn (by rw [List.append_nil, ← r.length]; rfl)
  rw [List.append_nil] at b
  obtain ⟨n1, n2, n3, n4⟩ := @pinO_ne a oe
  have apart : ∀ {c : Addr} {o : HO}, H1 c = some o → c ≠ a := fun z e => by
    rw [e, na] at z
    cases z
  have up : ∀ {c : Addr} {o : HO}, H1 c = some o → upd H1 a (pinO a oe) c = some o := fun z => by rw [upd_ne (apart z)]; exact z
  have fr : a ∉ frs X.stack := fun hm => (List.mem_cons.mp (I1.stkSub a hm)).elim nL nF
  have ok2 : HOk X.prog X.w (upd H1 a (pinO a oe)) s1.heap := by
    intro c u z
    by_cases hc : c = a
    · subst hc
      rw [upd_same] at z
      cases z
      exact ⟨ha, ⟨oe, ha⟩, fun _ _ y k => k _ y⟩
    · rw [upd_ne hc] at z
      exact (I1.hok c u z).stay (fun _ _ _ y => y) (fun _ y => up y) fun _ _ y => up y
  have e0 := I1.env0
  have env : Env0 X.prog X.w X.K X.mg X.base (X.A.mark (some (.ref a))) X.stack s1 (upd H1 a (pinO a oe)) := {
    frames := e0.frames, mod := e0.mod, bsz := e0.bsz, funs := e0.funs, hok := ok2, bare := e0.bare
    bs := fun c o z => ⟨(e0.bs c o z).1, by
      have ne : c ≠ a := fun y => by rw [y, nb] at z; cases z
      rw [upd_ne ne]
      exact (e0.bs c o z).2⟩
    frf := fun c hc => by
      have ne : c ≠ a := fun e => fr (by rw [← e]; exact hc)
      rw [upd_ne ne]
      exact e0.frf c hc }
  refine ⟨I1.kIn, wpAny_call (codeAny_mono (F.does (X.A.mark (some (.ref a))) X.stack s1 _ ⟨us, []⟩ us [.ref a] _ hr env b r q) ?_)⟩
  rintro (z | (_ | _ | _ | u)) s2 hz
  · exact hz.elim
  · exact hz.elim
  · exact hz.elim
  · exact hz.elim
  obtain ⟨v, H2, os, bare, un, hok, rv, hp, q2⟩ := hz
  have ha2 : s2.heap.get? a = some oe := (hok a _ hp).1
  have dl : ∀ {c : Addr} {o : HO}, c ≠ a → H2 c = some o → del H2 a c = some o := fun n z => by rw [del_ne n]; exact z
  have U : Un (frs X.stack) [] H1 (del H2 a) s1.heap s2.heap := {
    keep := fun c o z n nf nx => by
      by_cases hc : c = a
      · subst hc
        rw [ha] at z
        cases z
        exact ha2
      · exact un.keep c o z (by rw [upd_ne hc]; exact n) nf nx
    slot := fun c o z n hf nx => by
      have hc : c ≠ a := fun e => fr (e ▸ hf)
      exact un.slot c o z (by rw [upd_ne hc]; exact n) hf nx
    free := fun c o z n nx => by
      by_cases hc : c = a
      · rw [hc]
        exact del_same
      · rw [del_ne hc]
        exact un.free c o z (by rw [upd_ne hc]; exact n) nx
    there := un.there
    tups := fun c xs z => dl (apart z) (un.tups c xs (up z))
    frzs := fun c o u z => dl (apart z) (un.frzs c o u (up z))
    tbls := fun c ps z => let ⟨m, e⟩ := un.tbls c ps (up z); ⟨m, dl (apart z) e⟩ }
  have ok3 : HOk X.prog X.w (del H2 a) s2.heap := by
    intro c u z
    have hc : c ≠ a := fun e => by
      rw [e, del_same] at z
      cases z
    rw [del_ne hc] at z
    have other : ∀ {d : Addr} {o : HO}, H2 d = some o → pinO a oe ≠ o → d ≠ a := fun {d o} z1 n e => by
      rw [e, hp] at z1
      exact n (Option.some.inj z1)
    exact (hok c u z).stay (fun _ _ _ y => y) (fun d y => dl (other y (n4 c)) y) fun d xs y => dl (other y (n1 xs)) y
  exact ⟨v, del H2 a, I1.call' (ch := []) os U ok3 bare (fun _ z => nomatch z), rv, q2⟩
end
end Nv
set_option Elab.async false
set_option linter.all false
set_option maxRecDepth 100000
set_option maxHeartbeats 4000000
/-! What the written part says of an own exception class, as one look. -/
namespace Nv
open PySem PySem.Spec PyProof.Rows L2

def shapeB (K : PySem.W.Frag) (C : Addr) : Bool := match K.lookup C with
  | some ⟨.type "type", _, .cls cd, sl⟩ => (match cd.mro, sl.toList with
    | .ref D :: bm, [_, _, _, _, some (.builtin n), _] => D == C && (n == "ValueError.__new__" && (!cd.hasDel && (PySem.HandSPX.refsVE bm && cd.hasDict)))
    | _, _ => false)
  | _ => false
theorem shape_of {K : PySem.W.Frag} {C : Addr} (z : shapeB K C = true) :
    ∃ nm q N bs bm sn sub ab col dd k0 k1 k2 k3 k5, K.lookup C = some (excClassObj nm q C N bs bm true sn sub ab col dd k0 k1 k2 k3 k5 "ValueError.__new__") ∧ PySem.HandSPX.refsVE bm = true := by
  unfold shapeB at z
  split at z
  · rename_i dd cd sl ho
    split at z
    · rename_i D bm k0 k1 k2 k3 n k5 hm hs
      rw [Bool.and_eq_true, Bool.and_eq_true, Bool.and_eq_true, Bool.and_eq_true, beq_iff_eq, beq_iff_eq, Bool.not_eq_true'] at z
      obtain ⟨rfl, rfl, hdel, hb, hh⟩ := z
      obtain ⟨nm, bs, mro, ns, qn, hd, sn, sub, ab, col, del⟩ := cd
      dsimp only at hm hdel hh
      subst hm hdel hh
      obtain ⟨sl⟩ := sl
      simp only at hs
      subst hs
      exact ⟨nm, qn, ns, bs, bm, sn, sub, ab, col, dd, k0, k1, k2, k3, k5, ho, hb⟩
    · cases z
  · cases z
def nameB (r : Option PySem.W.CFound) (C : Addr) : Bool := match r with
  | some (.get g a o t) => g == .builtin "getset_descriptor.__get__" && (a == .builtin "type.__name__" && (o == .ref C && t == .type "type"))
  | _ => false
theorem nameB_of {r : Option PySem.W.CFound} {C : Addr} (z : nameB r C = true) : r = some (.get (.builtin "getset_descriptor.__get__") (.builtin "type.__name__") (.ref C) (.type "type")) := by
  unfold nameB at z
  split at z
  · simp only [Bool.and_eq_true, beq_iff_eq] at z
    obtain ⟨rfl, rfl, rfl, rfl⟩ := z
    rfl
  · cases z
/-- all that is asked of the class at C, its __init__ at fI -/
def classB (K : PySem.W.Frag) (C fI : Addr) : Bool :=
  shapeB K C && (PySem.W.findIn K (.ref C) "__setattr__" == some (some (.builtin "object.__setattr__")) && (PySem.W.subIn K (.ref C) (.type "BaseException") == some true && (PySem.W.typeIn K (.ref C) == some (.type "type") &&
  (PySem.W.keepIn K (.ref C) && (PySem.W.findIn K (.ref C) "__init__" == some (some (.ref fI)) && (PySem.W.findIn K (.ref C) "value" == some none && ((PySem.W.clsIn K C).isSome &&
  (PySem.W.findIn K (.ref C) "__getattribute__" == some (some (.builtin "BaseException.__getattribute__")) && (PySem.W.findIn K (.ref C) "__getattr__" == some none && (PySem.W.findIn K (.ref C) "__class__" == some (some (.builtin "object.__class__")) &&
  (PySem.W.mroIn K C (.type "object") == some true && (PySem.W.hasDictIn K C && (PySem.W.findIn K (.ref C) "name" == some none && (PySem.W.readsIn K C (.type "type") &&
  ((PySem.W.nameIn K C).isSome && nameB (PySem.W.findCls K (.ref C) (.type "type") "__name__") C)))))))))))))))
def metaB (K : PySem.W.Frag) (fI : Addr) : Bool := PySem.W.typeIn K (.ref fI) == some (.type "function") && (PySem.W.specialIn K (.builtin "object.__class__") "__get__" == some (some (.builtin "getset_descriptor.__get__")) && PySem.W.takesIn K (.builtin "object.__class__") == some true)
structure Xc (K : PySem.W.Frag) (C fI : Addr) : Prop where
  mx : MkX K C fI
  cl : XCls K C
  fl : XfC K C
theorem class_of {K : PySem.W.Frag} {C fI : Addr} (z : classB K C fI = true) (m : metaB K fI = true) : Xc K C fI := by
  unfold classB at z
  unfold metaB at m
  simp only [Bool.and_eq_true, beq_iff_eq] at z m
  obtain ⟨z1, z2, z3, z4, z5, z6, z7, z8, z9, z10, z11, z12, z13, z14, z15, z16, z17⟩ := z
  obtain ⟨m1, m2, m3⟩ := m
  exact ⟨⟨⟨shape_of z1, z2, z3, z4, z5⟩, z6, m1, z7, z14, ⟨z9, z10, z3, z8, z11, m2, m3, z12, z15, z4, nameB_of z17, Option.isSome_iff_exists.mp z16⟩⟩, ⟨z8, z9, z10, z3, z11, m2, m3, z12⟩, ⟨z9, z10, z3, z13⟩⟩
/-- the address of a class of the module -/
def addrIn (K : PySem.W.Frag) (n : Str) : Addr := match PySem.W.nsIn K mainGlobals n with
  | some (some (.ref a)) => a
  | _ => 0
def namedB (K : PySem.W.Frag) (n : Str) : Bool := PySem.W.nsIn K mainGlobals n == some (some (.ref (addrIn K n)))
theorem named_of {K : PySem.W.Frag} {h : Heap} {mg : Str → Option Value} {n : Str} (X : K.In h) (G : h.Ns mainGlobals mg) (z : namedB K n = true) : mg n = some (.ref (addrIn K n)) := PySem.W.mg_of X G (beq_iff_eq.mp z)
end Nv
set_option Elab.async false
set_option linter.all false
set_option maxRecDepth 100000
set_option maxHeartbeats 4000000
/-! raise C(e) where nothing is handled; readings that hang on what a suite holds. -/
namespace Nv
open PySem PySem.Spec PyProof.Rows L2

theorem PSs.all {X : Cx} {ι : Type} {p : ι → Prop} {t : ι → TS} {st : List Stmt} (i : ι) (hi : p i) (h : PSs X st (t i)) : PSs X st (fun D σ H => ∀ i, p i → t i D σ H) :=
  ⟨fun pins s σ H D I q => h.run pins s σ H D I (q i hi)⟩
theorem takesN0 {X : Cx} : L2N.Takes X (fun _ _ _ _ => False) := fun _ _ ⟨_, _, _, _, _, _, _, _, _, _, _, _, _, _, _, _, w⟩ => w.elim

section
variable {X : Cx} {C fI : Addr} {k : Nat} {fd : FuncData} {x : Str} {p pos : Pos} {e : Expr} {te : TE}
def xdQ (C : Addr) (Q : XK) (v : V) (H1 : Hp) : Prop := ∀ dx n, H1 dx = none → Q (.ref C) (some dx) (upd H1 dx (.xd (xf n v)))
theorem pmk_mkx (T : MkX X.K C fI) (F1 : FnOk X.prog X.w X.K X.mg X.base CX0 k fI fd ["self", "value"] (spIni X.K)) (hr : Room (k + 1) X.A) (hb : Binds X.K fd ["self", "value"] []) (hg : Gl X x) (hm : X.mg x = some (.ref C)) (he : PE X e te)
    (hs : starEach (e :: []) X.env = (false, eval e X.env) :: starEach [] X.env := by rfl) (hpl : (backTo pos (starEach [] X.env)).any (·.1) = false := by rfl) (hdb : (x == ("__debug__" : Str)) = false := by decide) :
    L2N.PMk X (.Call (.Name x p) [e] [] pos) (fun σ H Q => te σ H fun v H1 => xdQ C Q v H1) := by
  intro pins s σ H Q I h
  obtain ⟨nm, q, N, bs, bm, sn, sub, ab, col, dd, k0, k1, k2, k3, k5, hC, hbm⟩ := T.ox.cls
  refine wpAny_Call_Name_kw (ld_glob I hg hm (PySem.W.callWith_K (h₀ := X.base) I.ok.mod.kin T.ox.kC (thn ((pa_cons he pa_nil hs).run pos pins s σ H (oneA fun v H1 => xdQ C Q v H1) I h) ?_) hs hpl) hdb)
  rintro us ⟨hp, g, dr, tk, os⟩ ⟨vs, H1, I1, r1, q1⟩
  obtain ⟨v, rfl, q2⟩ := oneA_of q1
  refine ⟨I1.kIn, ?_⟩
  cases r1 with
  | cons rv rr =>
    cases rr
    rename_i u
    obtain ⟨a, ha⟩ : ∃ a, a = hp.objs.size + 1 := ⟨_, rfl⟩
    have h2 : ((hp.push (PySem.W.kdv_tup [u])).push (PySem.HandSPX.excO C hp.objs.size)).get? a = some (PySem.HandSPX.excO C hp.objs.size) := by rw [ha]; heap_get
    have new : hp.objs.size ≤ a := by rw [ha]; exact Nat.le_succ _
    have kk : ∀ b o, hp.get? b = some o → ((hp.push (PySem.W.kdv_tup [u])).push (PySem.HandSPX.excO C hp.objs.size)).get? b = some o := fun _ _ z => Heap.get?_push_of_some _ (Heap.get?_push_of_some _ z)
    have J := I1.laid (t' := tk) (a := a) (o := exo a C none) (h' := (hp.push (PySem.W.kdv_tup [u])).push (PySem.HandSPX.excO C hp.objs.size)) kk new (exo_ok h2)
    have nH : H1 a = none := I1.hok.fresh new
    have want : spIni X.K [.ref a, v] (upd H1 a (exo a C none)) (fun z H2 => z = .non ∧ ∃ dx n, H1 dx = none ∧ dx ≠ a ∧ H2 = upd (upd (upd H1 a (exo a C none)) dx (exd dx (xf n v))) a (exo a C (some dx))) E0 := by
      refine ⟨_, C, v, rfl, T.ox, T.nov, T.nof, T.nmc, upd_same, fun dx n nd ne => ⟨rfl, dx, n, ?_, ne, rfl⟩⟩
      rw [upd_ne ne] at nd
      exact nd
    refine wpAny_call (PySem.HandSPX.call_own F.excBase_ValueError (fun Y => PySem.HandSPX.refsVE_contains Y bm hbm) (I1.kIn _ _ hC) (PySem.W.looks_findIn I1.kIn T.ini) (fun self => PySem.W.bind_fn I1.kIn self T.tyI) (by show 1 ≤ sizeLine; decide) ?_)
    rw [← ha]
    refine codeAny_mono (F1.run _ X.stack _ _ ⟨[.ref a, u], []⟩ [.ref a, u] [.ref a, v] _ E0 (hr.make C [u] []) (J.env0.make C [u] []) (hb _ [.ref a, u] J.kIn rfl) (.cons rfl (.cons rv .nil)) want) ?_
    rintro (z | (_ | _ | _ | r)) s' hz
    · exact hz.elim
    · exact hz.elim
    · exact hz.elim
    · exact hz.elim
    · obtain ⟨v', H2, os2, bare2, un2, hok2, rv', ev, dx, n, nd, ne, eH⟩ := hz
      subst ev
      obtain ⟨hh, g2, d2, t2, os'⟩ := s'
      have ea : H2 a = some (exo a C (some dx)) := by rw [eH]; exact upd_same
      have ed : H2 dx = some (exd dx (xf n v)) := by rw [eH, upd_ne ne]; exact upd_same
      obtain ⟨t0, G, J3, kG, ge, hoe, na⟩ := mk_end0 (d2 := d2) (t2 := t2) I1 new kk un2 hok2 os2 bare2 ea ed nd
      have eq : upd (del H2 a) dx (.xd (xf n v)) = upd H1 dx (.xd (xf n v)) := by
        funext b
        by_cases e1 : b = dx
        · rw [e1, upd_same, upd_same]
        · rw [upd_ne e1, upd_ne e1]
          by_cases e2 : b = a
          · rw [e2, del_same, nH]
          · rw [del_ne e2, eH, upd_ne e2, upd_ne e1, upd_ne e2]
      rw [eq] at J3 na
      exact ⟨rv', a, _, _, ⟨G, g2, d2, t2, os'⟩, _, .ref C, some dx, rfl, J3, kG, ge, hoe, ⟨rfl, rfl, fun vs e => by cases e; rfl⟩, rfl, rfl, na, rfl, bare2, raises_own T.ox.exC T.ox.tyC, q2 dx n nd⟩
end

/-- lists of truths are data -/
theorem dp_bits {K : PySem.W.Frag} {H : Hp} : ∀ bs : List Bool, DpAll K H (bs.map V.bl) (bs.map PyData.bool)
  | [] => .nil
  | b :: r => .cons (.bl b) (dp_bits r)
end Nv
set_option Elab.async false
set_option linter.all false
set_option maxRecDepth 100000
set_option maxHeartbeats 4000000
/-! How long a shown datum is at most. -/
namespace Nv
open PySem PySem.Spec PyProof.Rows L2

theorem textFrom_le : ∀ (ts : List Str) (k : Nat) (acc : Str), (textFrom k acc ts).length ≤ acc.length + piled ts
  | [], k, acc => by show acc.length ≤ _; omega
  | t :: r, k, acc => by
    have ih := textFrom_le r (k + 1) (acc ++ (if k > 0 then ", " else "" : String) ++ t)
    show (textFrom (k + 1) (acc ++ (if k > 0 then ", " else "" : String) ++ t) r).length ≤ _
    rw [strLen_append, strLen_append] at ih
    have e : piled (t :: r) = t.length + 2 + piled r := by simp [piled]
    have c : (Str.ofString (if k > 0 then ", " else "" : String)).length ≤ 2 := by
      split
      · decide
      · decide
    rw [e]
    have ih' : (textFrom (k + 1) (acc ++ (if k > 0 then ", " else "" : String) ++ t) r).length ≤ acc.length + (Str.ofString (if k > 0 then ", " else "" : String)).length + t.length + piled r := ih
    omega
theorem listText_le (ts : List Str) : (listText ts).length ≤ piled ts + 2 := by
  unfold listText
  rw [strLen_append]
  have h := textFrom_le ts 0 "["
  have e : (("[" : String) : Str).length = 1 := rfl
  have e2 : (("]" : String) : Str).length = 1 := rfl
  omega
theorem tupleText_le (ts : List Str) : (tupleText ts).length ≤ piled ts + 3 := by
  unfold tupleText
  rw [strLen_append, strLen_append]
  have c : (Str.ofString (if ts.length == 1 then ",)" else ")" : String)).length ≤ 2 := by
    split
    · decide
    · decide
  have e : (("(" : String) : Str).length = 1 := rfl
  by_cases h : ts = []
  · subst h
    exact Nat.le_of_ble_eq_true rfl
  · have j := join_length_add ts h
    have c' : ((if ts.length == 1 then ",)" else ")" : String) : Str).length ≤ 2 := c
    omega
theorem intText_le {i : Int} (h : i.natAbs < 10 ^ 40) : (Str.ofString (toString i)).length ≤ 41 := by
  have e := int_text_length_le10 (k := 40) (by decide) h
  rw [PySem.ofString_length]
  omega

theorem nice_non : Nice .none := ⟨rfl, by decide, by decide, fun h => nomatch h⟩
theorem nice_bl (b : Bool) : Nice (.bool b) := by
  cases b
  · exact ⟨rfl, by decide, by decide, fun h => nomatch h⟩
  · exact ⟨rfl, by decide, by decide, fun h => nomatch h⟩
theorem log_lt {i : Int} (h : i.natAbs < 10 ^ 40) : i.natAbs.log2 < 1920 := by
  by_cases z : i.natAbs = 0
  · rw [z]
    decide
  · have a : i.natAbs.log2 < 140 := (Nat.log2_lt z).mpr (Nat.lt_trans h (by decide))
    omega
theorem nice_int {i : Int} (h : i.natAbs < 10 ^ 40) : Nice (.int i) := by
  refine ⟨?_, by show 0 ≤ 60; decide, ?_, fun h => nomatch h⟩
  · simp only [PyData.showable]
    exact decide_eq_true (log_lt h)
  · show (Str.ofString (toString i)).length ≤ sizeLine
    exact Nat.le_trans (intText_le h) (by decide)
theorem reprText_le {t : Str} (h : t.length ≤ 1000) (hc : ∀ c ∈ t.cps.toList, c < 200) : (reprText t).length ≤ 10 * t.length + 2 := StrLaws.reprText_len t fun c hm => Nat.lt_trans (hc c hm) (by decide)
theorem nice_str {t : Str} (h : t.length ≤ 1000) (hc : ∀ c ∈ t.cps.toList, c < 200) : Nice (.str t) := by
  refine ⟨rfl, by show 0 ≤ 60; decide, ?_, fun h => nomatch h⟩
  show (reprText t).length ≤ sizeLine
  have := reprText_le h hc
  exact Nat.le_trans this (Nat.le_trans (show 10 * t.length + 2 ≤ 10002 by omega) (by decide))
/-- ints in a row -/
def intsOk (xs : List Int) : Prop := ∀ x ∈ xs, x.natAbs < 10 ^ 40
theorem piled_ints : ∀ {xs : List Int}, intsOk xs → piled (PyData.shownAll (xs.map PyData.int)) ≤ 43 * xs.length
  | [], _ => Nat.le_refl _
  | x :: r, h => by
    have ih := piled_ints (xs := r) fun y hy => h y (List.mem_cons_of_mem _ hy)
    have e := intText_le (h x List.mem_cons_self)
    show piled (Str.ofString (toString x) :: PyData.shownAll (r.map PyData.int)) ≤ _
    rw [piled_cons, List.length_cons]
    omega
theorem shows_ints : ∀ {xs : List Int}, intsOk xs → PyData.showableAll (xs.map PyData.int) = true
  | [], _ => rfl
  | x :: r, h => by
    show (PyData.showable (.int x) && PyData.showableAll (r.map PyData.int)) = true
    rw [shows_ints (xs := r) fun y hy => h y (List.mem_cons_of_mem _ hy), (nice_int (h x List.mem_cons_self)).shows]
    rfl
theorem deep_ints : ∀ xs : List Int, PyData.depthAll (xs.map PyData.int) = 0
  | [] => rfl
  | x :: r => by
    show max (PyData.depth (.int x)) (PyData.depthAll (r.map PyData.int)) = 0
    rw [deep_ints r]
    rfl
theorem flat_ints : ∀ xs : List Int, PyData.hasDictAll (xs.map PyData.int) = false
  | [] => rfl
  | x :: r => by
    show (PyData.hasDict (.int x) || PyData.hasDictAll (r.map PyData.int)) = false
    rw [flat_ints r]
    rfl
/-- one nice thing ahead of ints, in a list -/
theorem nice_row {d : PyData} {xs : List Int} (n : Nice d) (nd : d.hasDict = false) (ld : d.shown.length ≤ 20000) (dd : d.depth ≤ 40) (h : intsOk xs) (l : xs.length ≤ 1000) : Nice (.list (d :: xs.map PyData.int)) := by
  refine ⟨?_, ?_, ?_, fun z => ?_⟩
  · show (PyData.showable d && PyData.showableAll (xs.map PyData.int)) = true
    rw [n.shows, shows_ints h]
    rfl
  · show (max d.depth (PyData.depthAll (xs.map PyData.int))) + 1 ≤ 60
    rw [deep_ints]
    omega
  · show (listText (d.shown :: PyData.shownAll (xs.map PyData.int))).length ≤ sizeLine
    have a := listText_le (d.shown :: PyData.shownAll (xs.map PyData.int))
    have b := piled_ints h
    rw [piled_cons] at a
    exact Nat.le_trans a (Nat.le_trans (show _ ≤ 100000 by omega) (by decide))
  · have e : PyData.hasDict (.list (d :: xs.map PyData.int)) = false := by
      show (d.hasDict || PyData.hasDictAll (xs.map PyData.int)) = false
      rw [nd, flat_ints]
      rfl
    rw [e] at z
    cases z
theorem dv_ints {H : Hp} : ∀ xs : List Int, DVs H (xs.map V.int) (xs.map PyData.int)
  | [] => .nil
  | x :: r => .cons (.int x) (dv_ints r)
theorem nice_pair {t : Str} (h : t.length ≤ 1000) (hc : ∀ c ∈ t.cps.toList, c < 200) : Nice (.tuple [.str t, .none]) := by
  refine ⟨rfl, (by show max 0 (max 0 0) + 1 ≤ 60; decide), ?_, fun z => nomatch z⟩
  show (tupleText [reprText t, Str.ofString "None"]).length ≤ sizeLine
  have a := tupleText_le [reprText t, Str.ofString "None"]
  have b := reprText_le h hc
  rw [piled_cons, piled_cons, piled_nil] at a
  have e : (Str.ofString "None").length = 4 := rfl
  exact Nat.le_trans a (Nat.le_trans (show _ ≤ 20000 by omega) (by decide))
theorem nice_empty : Nice (.dict []) := ⟨rfl, by decide, by decide, fun _ => rfl⟩
theorem nice_nil : Nice (.list []) := ⟨rfl, by decide, by decide, fun z => nomatch z⟩
end Nv
set_option Elab.async false
set_option linter.all false
set_option maxRecDepth 100000
set_option maxHeartbeats 16000000
namespace K1
open PySem PySem.Spec PyProof.Rows L2 Nv

def top (i : Nat) : Stmt := PySem.Challenge.pw_nevercrossed_k01_points_directions_and_e.main.body.getD i (.Pass ⟨0, 0, 0, 0⟩)
abbrev sCell : Stmt := top 25
abbrev sBox : Stmt := top 26
abbrev sTake : Stmt := top 27

/-- the box at p: its counter is at most m -/
def BoxAt (H : Hp) (p : Addr) (m : Int) : Prop := ∃ b0 b1 b2 : Int, H p = some (.lst [.int b0, .int b1, .int b2]) ∧ 0 ≤ b1 ∧ b1 < 2147483648 ∧ 0 ≤ b2 ∧ b2 ≤ m
/-- all but p is as it was -/
def But (p : Addr) (H H' : Hp) : Prop := ∀ c o, c ≠ p → H c = some o → H' c = some o

def spCell (K : PySem.W.Frag) : Sp := fun vs H Q _ => ∃ (a : Addr) (ns : List Int) (k : Int), vs = [.ref a, .int k] ∧ SqL K H a (ns.map V.int) ∧ 0 ≤ k ∧ k ≤ 100 ∧ ∀ n : Int, Q (.int n) H
def spBox : Sp := fun vs H Q _ => ∃ n : Int, vs = [.int n] ∧ ∀ p H', H p = none → Same H H' → BoxAt H' p 0 → Q (.ref p) H'
def spTake : Sp := fun vs H Q _ => ∃ (p : Addr) (m many : Int), vs = [.ref p, .int many] ∧ BoxAt H p m ∧ m ≤ 1000000 ∧ 0 < many ∧ many ≤ 100000 ∧
  ∀ r H', 0 ≤ r → r < many → BoxAt H' p (m + 1) → But p H H' → Q (.int r) H'

structure Txt0 (mg : Str → Option Value) : Prop where
  len : mg "len" = none
  max : mg "max" = none
section
variable {P : Program} {w : World} {K : PySem.W.Frag} {mg : Str → Option Value} {base : Heap}
theorem scCell : FnScope ["_law_script", "_law_k"] ["_law_script", "_law_k"] (defScope sCell) := ⟨rfl, rfl, rfl, by decide +kernel, rfl, by decide +kernel, by decide +kernel⟩
theorem ok_cell {f : Addr} {fd : FuncData} (F : Fun K "_law_cell_at" "_law_cell_at" sCell f fd) (T : Txt0 mg) : FnOk P w K mg base CX0 1 f fd ["_law_script", "_law_k"] (spCell K) := by
  refine F.ok scCell (fun vs H Q E h => ?_) (fun cdv A outer s H vs Q E hr h => ?_)
  · obtain ⟨a, ns, k, rfl, _⟩ := h
    rfl
  · obtain ⟨a, ns, k, rfl, hS, h0, h1, q⟩ := h
    refine ⟨_, pss_one (ps_ret (pe_ifExp (pt_cmpR op_lt (pv 1) (pe_callB call_len_seq (by rfl) T.len PySem.boot_len (pa_cons (pv 0) pa_nil)) (nomark _))
      (pe_ix ix_list (pv 0) (pv 1) (fun _ _ => rfl)) (pe_op op_add (pe_op op_mul pe_int (pv 1)) pe_int))), ?_⟩
    refine ⟨_, rfl, _, rfl, a, _, rfl, .inl hS, _, _, rfl, rfl, _, rfl, ?_⟩
    refine ite2 (fun lt => ?_) (fun _ => ?_)
    · have hl : k < ((ns.map V.int).length : Int) := of_decide_eq_true lt
      rw [List.length_map] at hl
      obtain ⟨j, rfl⟩ : ∃ j : Nat, k = j := ⟨k.toNat, by omega⟩
      have hj : j < ns.length := by omega
      refine ⟨_, rfl, _, rfl, a, _, _, .int ns[j], rfl, rfl, hS, atI_nat ?_, q _⟩
      rw [List.getElem?_map, List.getElem?_eq_getElem hj] <;> rfl
    · exact ⟨_, rfl, _, _, rfl, rfl, .inl ⟨by decide, by decide⟩, _, _, rfl, rfl, q _⟩

theorem scBox : FnScope ["_law_number"] ["_law_number"] (defScope sBox) := ⟨rfl, rfl, rfl, by decide +kernel, rfl, by decide +kernel, by decide +kernel⟩
theorem ok_box {f : Addr} {fd : FuncData} (F : Fun K "_law_box" "_law_box" sBox f fd) (T : Txt0 mg) : FnOk P w K mg base CX0 1 f fd ["_law_number"] spBox := by
  refine F.ok scBox (fun vs H Q E h => ?_) (fun cdv A outer s H vs Q E hr h => ?_)
  · obtain ⟨n, rfl, _⟩ := h
    rfl
  · obtain ⟨n, rfl, q⟩ := h
    refine ⟨_, pss_one (ps_ret (pe_lst (pa_cons (pe_callB (call_max2 rfl) (by rfl) T.max (by decide +kernel) (pa_cons pe_int (pa_cons (pe_op op_sub (pv 0) (pe_op op_pow pe_int pe_int)) pa_nil)))
      (pa_cons (pe_op op_mod (pv 0) pe_int) (pa_cons pe_int pa_nil))))), ?_⟩
    refine ⟨_, rfl, _, _, rfl, rfl, ⟨by decide, by decide, by decide⟩, _, _, rfl, rfl, _, _, rfl, _, rfl, _, _, rfl, rfl, (by show (0 : Int) < 2147483579; decide), (by show 3 ≤ sizeLine; decide), fun p hp => ?_⟩
    refine q p _ hp (fun b o e => by rw [upd_ne (ne_of_none e hp)]; exact e) ⟨_, _, _, upd_same, ?_, ?_, by decide, by decide⟩ <;> omega

theorem scTake : FnScope ["_law_box_here", "_law_many", "_law_digit", "_law_number"] ["_law_box_here", "_law_many"] (defScope sTake) := ⟨rfl, rfl, rfl, by decide +kernel, rfl, by decide +kernel, by decide +kernel⟩
theorem ok_take {f : Addr} {fd : FuncData} (F : Fun K "_law_take" "_law_take" sTake f fd) : FnOk P w K mg base CX0 1 f fd ["_law_box_here", "_law_many"] spTake := by
  refine F.ok scTake (fun vs H Q E h => ?_) (fun cdv A outer s H vs Q E hr h => ?_)
  · obtain ⟨p, m, many, rfl, _⟩ := h
    rfl
  · obtain ⟨p, m, many, rfl, ⟨b0, b1, b2, hp, l1, u1, l2, u2⟩, hm, m0, m1, q⟩ := h
    refine ⟨_, pss_cons (ps_if (pt_cmpR op_gt (pe_ix ix_list (pv 0) pe_int (fun _ _ => rfl)) pe_int (nomark _))
        (pss_cons (ps_set (i := 2) scTake.nd rfl (Or.inl rfl) (pe_op op_mod (pe_ix ix_list (pv 0) pe_int (fun _ _ => rfl)) (pv 1)))
        (pss_cons (ps_asg (pe_op op_fdiv (pe_ix ix_list (pv 0) pe_int (fun _ _ => rfl)) (pv 1)) (pg_sub (pv 0) pe_int set_list))
        (pss_one (ps_ret (pv 2))))) pss_nil)
      (pss_cons (ps_asg (pe_op op_add (pe_ix ix_list (pv 0) pe_int (fun _ _ => rfl)) pe_int) (pg_sub (pv 0) pe_int set_list))
      (pss_cons (ps_set (i := 3) scTake.nd rfl (Or.inl rfl) (pe_op op_mod (pe_op op_pow (pe_op op_add (pe_op op_add (pe_ix ix_list (pv 0) pe_int (fun _ _ => rfl)) (pe_op op_mul pe_int (pe_ix ix_list (pv 0) pe_int (fun _ _ => rfl)))) pe_int) pe_int) pe_int))
      (pss_cons (ps_set (i := 3) scTake.nd rfl (Or.inl rfl) (pe_op op_mod (pe_op op_pow (pe_op op_add (pv 3) (pe_op op_mul pe_int (pe_ix ix_list (pv 0) pe_int (fun _ _ => rfl)))) pe_int) pe_int))
      (pss_one (ps_ret (pe_op op_mod (pe_op op_fdiv (pv 3) pe_int) (pv 1))))))), ?_⟩
    have i0 : ∀ {x y z : V}, atI [x, y, z] 0 = some x := rfl
    have i1 : ∀ {x y z : V}, atI [x, y, z] 1 = some y := rfl
    have i2 : ∀ {x y z : V}, atI [x, y, z] 2 = some z := rfl
    refine ⟨_, rfl, p, _, _, _, rfl, rfl, SqL.of hp, i0, _, _, rfl, rfl, _, rfl, ?_⟩
    refine ite2 (fun _ => ?_) (fun _ => ?_)
    · refine ⟨_, rfl, p, _, _, _, rfl, rfl, SqL.of hp, i0, _, rfl, _, _, rfl, rfl, m0, ?_⟩
      refine ⟨_, rfl, p, _, _, _, rfl, rfl, SqL.of hp, i0, _, rfl, _, _, rfl, rfl, ⟨m0, by omega⟩, _, rfl, p, _, _, 0, rfl, rfl, hp, rfl, ?_⟩
      refine ⟨_, rfl, q _ _ (Int.emod_nonneg _ (by omega)) (Int.emod_lt_of_pos _ m0) ⟨_, _, _, upd_same, l1, u1, l2, by omega⟩ fun c o ne e => ?_⟩
      rw [upd_ne ne]
      exact e
    · refine ⟨_, rfl, p, _, _, _, rfl, rfl, SqL.of hp, i2, _, _, rfl, rfl, _, rfl, p, _, _, 2, rfl, rfl, hp, rfl, ?_⟩
      have hq : upd H p (.lst ([V.int b0, .int b1, .int b2].set 2 (.int (b2 + 1)))) p = some (.lst [.int b0, .int b1, .int (b2 + 1)]) := upd_same
      refine ⟨_, rfl, p, _, _, _, rfl, rfl, SqL.of hq, i1, _, rfl, p, _, _, _, rfl, rfl, SqL.of hq, i2, _, _, rfl, rfl, .inl ⟨by decide, by decide⟩, _, _, rfl, rfl, _, _, rfl, rfl, _, _, rfl, rfl, ⟨by decide, by decide, by omega⟩, _, _, rfl, rfl, (by show (0 : Int) < 2147483647; decide), ?_⟩
      have z1 : ∀ x : Int, 0 ≤ x % 2147483647 ∧ x % 2147483647 < 2147483647 := fun x => ⟨Int.emod_nonneg _ (by decide), Int.emod_lt_of_pos _ (by decide)⟩
      generalize hn : ((b1 + 6134 * (b2 + 1) + 870) ^ (5 : Int).toNat) % 2147483647 = n1
      have b1' := z1 ((b1 + 6134 * (b2 + 1) + 870) ^ (5 : Int).toNat)
      rw [hn] at b1'
      refine ⟨_, rfl, _, rfl, p, _, _, _, rfl, rfl, SqL.of hq, i2, _, _, rfl, rfl, .inl ⟨by decide, by decide⟩, _, _, rfl, rfl, _, _, rfl, rfl, ⟨by decide, by decide, by omega⟩, _, _, rfl, rfl, (by show (0 : Int) < 2147483587; decide), ?_⟩
      refine ⟨_, rfl, _, _, rfl, rfl, ⟨by decide, by decide⟩, _, rfl, _, _, rfl, rfl, m0, ?_⟩
      refine q _ _ (Int.emod_nonneg _ (by omega)) (Int.emod_lt_of_pos _ m0) ⟨_, _, _, hq, l1, u1, by omega, by omega⟩ fun c o ne e => ?_
      rw [upd_ne ne]
      exact e
end
end K1
set_option Elab.async false
set_option linter.all false
set_option maxRecDepth 100000
set_option maxHeartbeats 16000000
namespace K1
open PySem PySem.Spec PyProof.Rows L2 Nv
/-! ### what the questions ask, of data -/
def intish : PyData → Bool
  | .bool _ => true
  | .int _ => true
  | _ => false
def boolish : PyData → Bool
  | .bool _ => true
  | _ => false
def tupish : PyData → Bool
  | .tuple _ => true
  | _ => false
def strish : PyData → Bool
  | .str _ => true
  | _ => false
def intB : PyData → Bool
  | .int _ => true
  | _ => false
def pairB : PyData → Bool
  | .tuple [_, _] => true
  | _ => false
def cooB : PyData → Bool
  | .int i => decide (0 ≤ i) && decide (i ≤ 30)
  | _ => false
def ptB : PyData → Bool
  | .tuple [a, b] => cooB a && cooB b
  | _ => false
def dirOf (s : Str) : Bool := decide (s = "r") || (decide (s = "u") || (decide (s = "l") || decide (s = "d")))
def dirB : PyData → Bool
  | .str s => dirOf s
  | _ => false
/-- a def that asks one value and gives a truth -/
def spB (b : PyData → Bool) : Sp := fun vs H Q _ => ∃ v d, vs = [v] ∧ DV H v d ∧ ∀ H', Same H H' → Q (.bl (b d)) H'
theorem same0 (H : Hp) : Same H H := fun _ _ e => e

/-- the type's name of a datum -/
def tyN : PyData → String
  | .none => "NoneType"
  | .bool _ => "bool"
  | .int _ => "int"
  | .str _ => "str"
  | .list _ => "list"
  | .tuple _ => "tuple"
  | .dict _ => "dict"
theorem ty_of {K : PySem.W.Frag} {H : Hp} {v : V} {d : PyData} (h : DV H v d) : TyX K H v (.type (tyN d)) := by
  cases h with
  | non => exact .base .non
  | bl b => exact .base (.bl b)
  | int i => exact .base (.int i)
  | str x => exact .base (.str x)
  | lst h r => exact .base (.lst h)
  | tup h r => exact .base (.tup h)
  | emp h => exact .base (.dK h)
theorem kit_int (d : PyData) : kitB (tyN d) "int" = some (intish d) := by
  cases d
  · show kitB "NoneType" "int" = some false
    decide +kernel
  · show kitB "bool" "int" = some true
    decide +kernel
  · show kitB "int" "int" = some true
    decide +kernel
  · show kitB "str" "int" = some false
    decide +kernel
  · show kitB "list" "int" = some false
    decide +kernel
  · show kitB "tuple" "int" = some false
    decide +kernel
  · show kitB "dict" "int" = some false
    decide +kernel
theorem kit_bool (d : PyData) : kitB (tyN d) "bool" = some (boolish d) := by
  cases d
  · show kitB "NoneType" "bool" = some false
    decide +kernel
  · show kitB "bool" "bool" = some true
    decide +kernel
  · show kitB "int" "bool" = some false
    decide +kernel
  · show kitB "str" "bool" = some false
    decide +kernel
  · show kitB "list" "bool" = some false
    decide +kernel
  · show kitB "tuple" "bool" = some false
    decide +kernel
  · show kitB "dict" "bool" = some false
    decide +kernel
theorem kit_tuple (d : PyData) : kitB (tyN d) "tuple" = some (tupish d) := by
  cases d
  · show kitB "NoneType" "tuple" = some false
    decide +kernel
  · show kitB "bool" "tuple" = some false
    decide +kernel
  · show kitB "int" "tuple" = some false
    decide +kernel
  · show kitB "str" "tuple" = some false
    decide +kernel
  · show kitB "list" "tuple" = some false
    decide +kernel
  · show kitB "tuple" "tuple" = some true
    decide +kernel
  · show kitB "dict" "tuple" = some false
    decide +kernel
theorem kit_str (d : PyData) : kitB (tyN d) "str" = some (strish d) := by
  cases d
  · show kitB "NoneType" "str" = some false
    decide +kernel
  · show kitB "bool" "str" = some false
    decide +kernel
  · show kitB "int" "str" = some false
    decide +kernel
  · show kitB "str" "str" = some true
    decide +kernel
  · show kitB "list" "str" = some false
    decide +kernel
  · show kitB "tuple" "str" = some false
    decide +kernel
  · show kitB "dict" "str" = some false
    decide +kernel
theorem dv_tup {H : Hp} {v : V} {ds : List PyData} (h : DV H v (.tuple ds)) : ∃ a xs, v = .ref a ∧ H a = some (.tup xs) ∧ DVs H xs ds := by
  cases h with
  | tup h r => exact ⟨_, _, rfl, h, r⟩
theorem dv_pair {H : Hp} {v : V} {d e : PyData} (h : DV H v (.tuple [d, e])) : ∃ a x y, v = .ref a ∧ H a = some (.tup [x, y]) ∧ DV H x d ∧ DV H y e := by
  obtain ⟨a, xs, rfl, h1, r⟩ := dv_tup h
  cases r with
  | cons h2 r =>
    cases r with
    | cons h3 r =>
      cases r
      exact ⟨a, _, _, rfl, h1, h2, h3⟩
theorem pair_of {d : PyData} (h : pairB d = true) : ∃ a b, d = .tuple [a, b] := by
  cases d with
  | tuple ds =>
    rcases ds with _ | ⟨a, _ | ⟨b, _ | ⟨c, r⟩⟩⟩
    · cases h
    · cases h
    · exact ⟨a, b, rfl⟩
    · cases h
  | _ => cases h
theorem coo_of {d : PyData} (h : cooB d = true) : ∃ i : Int, d = .int i ∧ 0 ≤ i ∧ i ≤ 30 := by
  cases d with
  | int i =>
    have := Bool.and_eq_true_iff.mp (show (decide (0 ≤ i) && decide (i ≤ 30)) = true from h)
    exact ⟨i, rfl, of_decide_eq_true this.1, of_decide_eq_true this.2⟩
  | _ => cases h
theorem pt_of {d : PyData} (h : ptB d = true) : ∃ i j : Int, d = .tuple [.int i, .int j] ∧ 0 ≤ i ∧ i ≤ 30 ∧ 0 ≤ j ∧ j ≤ 30 := by
  cases d with
  | tuple ds =>
    rcases ds with _ | ⟨a, _ | ⟨b, _ | ⟨c, r⟩⟩⟩
    · cases h
    · cases h
    · have z := Bool.and_eq_true_iff.mp (show (cooB a && cooB b) = true from h)
      obtain ⟨i, rfl, i0, i1⟩ := coo_of z.1
      obtain ⟨j, rfl, j0, j1⟩ := coo_of z.2
      exact ⟨i, j, rfl, i0, i1, j0, j1⟩
    · cases h
  | _ => cases h
theorem dv_int {H : Hp} {v : V} {i : Int} (h : DV H v (.int i)) : v = .int i := by
  cases h
  rfl
theorem dv_str {H : Hp} {v : V} {i : Str} (h : DV H v (.str i)) : v = .str i := by
  cases h
  rfl
theorem dv_pt {H : Hp} {v : V} {i j : Int} (h : DV H v (.tuple [.int i, .int j])) : ∃ a, v = .ref a ∧ H a = some (.tup [.int i, .int j]) := by
  obtain ⟨a, x, y, rfl, h1, hx, hy⟩ := dv_pair h
  rw [dv_int hx, dv_int hy] at h1
  exact ⟨a, rfl, h1⟩
theorem sqt {K : PySem.W.Frag} {H : Hp} {a : Addr} {xs : List V} (h : H a = some (.tup xs)) : SqT K H a xs := .inl (.inl h)

mutual
theorem dv_dp {K : PySem.W.Frag} {H : Hp} : ∀ {v : V} {d : PyData}, DV H v d → d.hasDict = false → Dp K H v d
  | _, _, .non, _ => .non
  | _, _, .bl b, _ => .bl b
  | _, _, .int i, _ => .int i
  | _, _, .str x, _ => .str x
  | _, _, .lst h r, n => .lst (SqL.of h) (dvs_dp r (by simpa [PyData.hasDict] using n))
  | _, _, .tup h r, n => .tup (sqt h) (dvs_dp r (by simpa [PyData.hasDict] using n))
  | _, _, .emp h, n => by simp [PyData.hasDict] at n
theorem dvs_dp {K : PySem.W.Frag} {H : Hp} : ∀ {vs : List V} {ds : List PyData}, DVs H vs ds → PyData.hasDictAll ds = false → DpAll K H vs ds
  | _, _, .nil, _ => .nil
  | _, _, .cons (d := d) (ds := ds) h r, n => by
    have z : d.hasDict = false ∧ PyData.hasDictAll ds = false := by simpa [PyData.hasDictAll] using n
    exact .cons (dv_dp h z.1) (dvs_dp r z.2)
end
section
variable {X : Cx}
def rInT (K : PySem.W.Frag) : R2 := fun x y H Q => ∃ d ds, Dp K H x d ∧ Dp K H y (.tuple ds) ∧ SeqAt.shaped d = true ∧ SeqAt.shaped (.list ds) = true ∧ Q (.bl (ds.any fun z => PyData.eqv z d)) H
theorem op_inT (hu : X.A.units + 65 < cLine) : OpR X (compareOp .In) (rInT X.K) := by
  intro pins s σ H x y v u Q I rx ry h
  obtain ⟨d, ds, hd, he, sd, se, q⟩ := h
  obtain ⟨as, r1⟩ := Dp.reads I d x v hd rx
  obtain ⟨bs, r2⟩ := Dp.reads I (.tuple ds) y u he ry
  exact SeqAt.in_tuple_reads r2 r1 (SeqAt.canLay_of_shaped se) (SeqAt.canLay_of_shaped sd) (room_in_shaped sd hu) ⟨.bl _, H, I, rfl, q⟩
end

structure Ta (mg : Str → Option Value) : Prop where
  isi : mg "isinstance" = none
  int : mg "int" = none
  bool : mg "bool" = none
  tup : mg "tuple" = none
  str : mg "str" = none
  len : mg "len" = none
  last : ∃ t, mg "LAST" = some (.int 30 t)
/-- a def of the text, where it stands -/
structure At (K : PySem.W.Frag) (mg : Str → Option Value) (n : Str) (f : Addr) (fd : FuncData) (ps : List Str) : Prop where
  g : mg n = some (.ref f)
  k : PySem.W.keepIn K (.ref f) = true
  b : Binds K fd ps []
section
variable {P : Program} {w : World} {K : PySem.W.Frag} {mg : Str → Option Value} {base : Heap}
theorem spB_len {b : PyData → Bool} {n : Str} : ∀ (vs : List V) (H : Hp) (Q : VK) (E : XK), spB b vs H Q E → vs.length = [n].length := fun vs H Q E h => by
  obtain ⟨v, d, rfl, _⟩ := h
  rfl
theorem intB_eq {d : PyData} : intB d = (intish d && !(boolish d)) := by cases d <;> rfl
theorem and_t {a b : Bool} (h : a = true) : (a && b) = b := by rw [h]; rfl
theorem and_f {a b : Bool} (h : ¬ a = true) : (a && b) = false := by cases a <;> simp_all
theorem scI : FnScope ["value"] ["value"] (defScope (top 11)) := ⟨rfl, rfl, rfl, by decide +kernel, rfl, by decide +kernel, by decide +kernel⟩
theorem ok_isint {f : Addr} {fd : FuncData} (F : Fun K "is_integer" "is_integer" (top 11) f fd) (T : Ta mg) : FnOk P w K mg base CX0 1 f fd ["value"] (spB intB) := by
  refine F.ok scI spB_len (fun cdv A outer s H vs Q E hr h => ?_)
  obtain ⟨v, d, rfl, dv, q⟩ := h
  refine ⟨_, pss_one (ps_ret (pe_and (pe_callB call_isi (by rfl) T.isi (by decide +kernel) (pa_cons (pv 0) (pa_cons (pe_bltn (v := .ty "int") (u := .type "int") (by rfl) T.int (by decide +kernel) rfl) pa_nil)))
    (pe_one (pe_not (pe_callB call_isi (by rfl) T.isi (by decide +kernel) (pa_cons (pv 0) (pa_cons (pe_bltn (v := .ty "bool") (u := .type "bool") (by rfl) T.bool (by decide +kernel) rfl) pa_nil))))))), ?_⟩
  refine ⟨_, rfl, _, .ty "int", .type (tyN d), .type "int", _, rfl, .ty _, ty_of dv, kit_ty (kit_int d), _, rfl, ite2 (fun e => ?_) (fun e => ?_)⟩
  · refine ⟨_, rfl, _, .ty "bool", .type (tyN d), .type "bool", _, rfl, .ty _, ty_of dv, kit_ty (kit_bool d), _, rfl, ?_⟩
    have := q H (same0 H)
    rwa [intB_eq, and_t e] at this
  · have := q H (same0 H)
    rwa [intB_eq, and_f e] at this
theorem scLI : FnScope ["_law_value"] ["_law_value"] (defScope (top 28)) := ⟨rfl, rfl, rfl, by decide +kernel, rfl, by decide +kernel, by decide +kernel⟩
theorem ok_lint {f : Addr} {fd : FuncData} (F : Fun K "_law_integer" "_law_integer" (top 28) f fd) (T : Ta mg) : FnOk P w K mg base CX0 1 f fd ["_law_value"] (spB intB) := by
  refine F.ok scLI spB_len (fun cdv A outer s H vs Q E hr h => ?_)
  obtain ⟨v, d, rfl, dv, q⟩ := h
  refine ⟨_, pss_one (ps_ret (pe_and (pe_callB call_isi (by rfl) T.isi (by decide +kernel) (pa_cons (pv 0) (pa_cons (pe_bltn (v := .ty "int") (u := .type "int") (by rfl) T.int (by decide +kernel) rfl) pa_nil)))
    (pe_one (pe_not (pe_callB call_isi (by rfl) T.isi (by decide +kernel) (pa_cons (pv 0) (pa_cons (pe_bltn (v := .ty "bool") (u := .type "bool") (by rfl) T.bool (by decide +kernel) rfl) pa_nil))))))), ?_⟩
  refine ⟨_, rfl, _, .ty "int", .type (tyN d), .type "int", _, rfl, .ty _, ty_of dv, kit_ty (kit_int d), _, rfl, ite2 (fun e => ?_) (fun e => ?_)⟩
  · refine ⟨_, rfl, _, .ty "bool", .type (tyN d), .type "bool", _, rfl, .ty _, ty_of dv, kit_ty (kit_bool d), _, rfl, ?_⟩
    have := q H (same0 H)
    rwa [intB_eq, and_t e] at this
  · have := q H (same0 H)
    rwa [intB_eq, and_f e] at this
theorem tupish_of {d : PyData} (h : tupish d = true) : ∃ ds, d = .tuple ds := by
  cases d with
  | tuple ds => exact ⟨ds, rfl⟩
  | _ => cases h
theorem int_of {d : PyData} (h : intB d = true) : ∃ i, d = .int i := by
  cases d with
  | int i => exact ⟨i, rfl⟩
  | _ => cases h
theorem coo_int {d : PyData} (h : intB d = false) : cooB d = false := by
  cases d with
  | int i => cases h
  | _ => rfl
/-- a length asked: the datum is a pair, or not -/
theorem pair_len {ds : List PyData} (h : (!decide (V.int (ds.length : Int) = V.int 2)) = false) : ∃ da db, ds = [da, db] := by
  rcases ds with _ | ⟨a, _ | ⟨b, _ | ⟨c, r0⟩⟩⟩
  · cases h
  · cases h
  · exact ⟨a, b, rfl⟩
  · have := of_decide_eq_true (by simpa using h : decide (V.int (((a :: b :: c :: r0).length : Nat) : Int) = V.int 2) = true)
    have := V.int.inj this
    simp only [List.length_cons] at this
    omega
theorem pair_nolen {ds : List PyData} (h : (!decide (V.int (ds.length : Int) = V.int 2)) = true) : pairB (.tuple ds) = false := by
  rcases ds with _ | ⟨a, _ | ⟨b, _ | ⟨c, r0⟩⟩⟩
  · rfl
  · rfl
  · cases h
  · rfl
theorem ptB_pair {d : PyData} (h : pairB d = false) : ptB d = false := by
  cases d with
  | tuple ds =>
    rcases ds with _ | ⟨a, _ | ⟨b, _ | ⟨c, r⟩⟩⟩
    · rfl
    · rfl
    · cases h
    · rfl
  | _ => rfl
theorem pair_tup {d : PyData} (h : tupish d = false) : pairB d = false := by
  cases d with
  | tuple ds => cases h
  | _ => rfl
theorem scPt : FnScope ["value", "x", "y"] ["value"] (defScope (top 12)) := ⟨rfl, rfl, rfl, by decide +kernel, rfl, by decide +kernel, by decide +kernel⟩
theorem ok_ispoint {f fI : Addr} {fd fdI : FuncData} (F : Fun K "is_point" "is_point" (top 12) f fd) (T : Ta mg) (GI : FnOk P w K mg base CX0 1 fI fdI ["value"] (spB intB)) (AI : At K mg "is_integer" fI fdI ["value"]) :
    FnOk P w K mg base CX0 3 f fd ["value"] (spB ptB) := by
  refine F.ok scPt spB_len (fun cdv A outer s H vs Q E hr h => ?_)
  obtain ⟨v, d, rfl, dv, q⟩ := h
  obtain ⟨tt, hT⟩ := T.last
  refine ⟨_, pss_cons (ps_if (PW.pt (pw_or (pt_not (pt_val (pe_callB call_isi (by rfl) T.isi (by decide +kernel) (pa_cons (pv 0) (pa_cons (pe_bltn (v := .ty "tuple") (u := .type "tuple") (by rfl) T.tup (by decide +kernel) rfl) pa_nil)))))
      (pw_or1 (pt_cmpR op_ne (pe_callB call_len_seq (by rfl) T.len PySem.boot_len (pa_cons (pv 0) pa_nil)) pe_int (nomark _))))) (pss_one (ps_ret pe_bl)) pss_nil)
    (pss_cons (ps_asg (pv 0) (pg_tup rfl (pgs_cons (pg_name (i := 1) scPt.nd rfl (Or.inl rfl)) (pgs_cons (pg_name (i := 2) scPt.nd rfl (Or.inl rfl)) pgs_nil))))
    (pss_one (ps_ret (pe_and (pe_call GI (hr.mono (by decide)) rfl AI.g AI.k AI.b .nil pass0 (pa_cons (pv 1) pa_nil)) (pe_and (pe_call GI (hr.mono (by decide)) rfl AI.g AI.k AI.b .nil pass0 (pa_cons (pv 2) pa_nil))
      (pe_and (pe_chain op_le op_le pe_int (pv 1) (pe_glob (v := .int 30) rfl hT ⟨_, rfl⟩)) (pe_one (pe_chain op_le op_le pe_int (pv 2) (pe_glob (v := .int 30) rfl hT ⟨_, rfl⟩))))))))), ?_⟩
  refine ⟨_, rfl, _, .ty "tuple", .type (tyN d), .type "tuple", _, rfl, .ty _, ty_of dv, kit_ty (kit_tuple d), _, rfl, ?_⟩
  cases e : tupish d with
  | false =>
    have := q H (same0 H)
    rwa [ptB_pair (pair_tup e)] at this
  | true =>
    obtain ⟨ds, rfl⟩ := tupish_of e
    obtain ⟨a, xs, rfl, h1, r⟩ := dv_tup dv
    refine ⟨_, rfl, a, xs, rfl, .inr (sqt h1), rfl, _, rfl, ?_⟩
    cases e1 : (!decide (V.int (xs.length : Int) = V.int 2)) with
    | true =>
      have := q H (same0 H)
      rw [r.length] at e1
      rwa [ptB_pair (pair_nolen e1)] at this
    | false =>
      rw [r.length] at e1
      obtain ⟨da, db, rfl⟩ := pair_len e1
      obtain ⟨a', x, y, ea, h1', hx, hy⟩ := dv_pair dv
      cases ea
      refine ⟨_, rfl, a, _, rfl, sqt h1', rfl, _, _, rfl, _, _, rfl, rfl, ?_⟩
      refine ⟨_, rfl, x, da, rfl, hx, fun H2 s2 => ⟨_, rfl, ite2 (fun i1 => ?_) (fun i1 => ?_)⟩⟩
      · obtain ⟨i, rfl⟩ := int_of i1
        refine ⟨_, rfl, y, db, rfl, hy.more s2, fun H3 s3 => ⟨_, rfl, ite2 (fun i2 => ?_) (fun i2 => ?_)⟩⟩
        · obtain ⟨j, rfl⟩ := int_of i2
          have s13 : Same H H3 := fun b o e => s3 b o (s2 b o e)
          rw [dv_int hx, dv_int hy]
          have fin : ptB (.tuple [.int i, .int j]) = ((decide (0 ≤ i) && decide (i ≤ 30)) && (decide (0 ≤ j) && decide (j ≤ 30))) := rfl
          have q3 := q H3 s13
          rw [fin] at q3
          refine ⟨_, rfl, _, _, rfl, rfl, _, rfl, ite2 (fun c1 => ?_) (fun c1 => ?_)⟩
          · rw [c1, Bool.true_and] at q3
            refine ⟨_, _, rfl, rfl, _, rfl, ite2 (fun c2 => ?_) (fun c2 => ?_)⟩
            · rw [c2, Bool.true_and] at q3
              refine ⟨_, rfl, _, _, rfl, rfl, _, rfl, ite2 (fun c3 => ?_) (fun c3 => ?_)⟩
              · rw [c3, Bool.true_and] at q3
                exact ⟨_, _, rfl, rfl, q3⟩
              · rwa [(Bool.not_eq_true _).mp c3, Bool.false_and] at q3
            · rwa [(Bool.not_eq_true _).mp c2, Bool.false_and] at q3
          · rw [(Bool.not_eq_true _).mp c1, Bool.false_and, Bool.false_and] at q3
            exact ⟨_, rfl, q3⟩
        · have := q H3 fun b o e => s3 b o (s2 b o e)
          rwa [show ptB (.tuple [.int i, db]) = false from (by show (cooB _ && cooB db) = false; rw [coo_int ((Bool.not_eq_true _).mp i2), Bool.and_false])] at this
      · have := q H2 s2
        rwa [show ptB (.tuple [da, db]) = false from (by show (cooB da && cooB db) = false; rw [coo_int ((Bool.not_eq_true _).mp i1), Bool.false_and])] at this
end
end K1
set_option Elab.async false
set_option linter.all false
set_option maxRecDepth 100000
set_option maxHeartbeats 16000000
namespace K1
open PySem PySem.Spec PyProof.Rows L2 Nv
def xOf : PyData → Int
  | .tuple [.int x, .int _] => x
  | _ => 0
def yOf : PyData → Int
  | .tuple [.int _, .int y] => y
  | _ => 0
def stepB (p q : PyData) : Bool := (decide (xOf q - xOf p = 1) && decide (yOf q - yOf p = 0)) || (decide (xOf q - xOf p = 0) && decide (yOf q - yOf p = 1))
def edgeB : PyData → Bool
  | .tuple [p, q] => ptB p && (ptB q && stepB p q)
  | _ => false
def nearB (p q : PyData) : Bool := decide ((xOf p - xOf q) ^ 2 + (yOf p - yOf q) ^ 2 = 1)
def ledgeB : PyData → Bool
  | .tuple [p, q] => ptB p && (ptB q && (nearB p q && decide (xOf p + yOf p < xOf q + yOf q)))
  | _ => false

/-! ### the tables -/
theorem isStr_of {e : DictEntry} {z k : Str} {n : Int} (h : He.keyOf e = some (k, n)) : e.key.isStr z = decide (k = z) ∧ e.refKey = false := by
  unfold He.keyOf at h
  split at h
  · rename_i x t q
    obtain ⟨rfl, -⟩ := Prod.mk.inj (Option.some.inj h)
    refine ⟨?_, ?_⟩
    · rw [q]
      show (x == z) = decide (x = z)
      rfl
    · unfold DictEntry.refKey
      rw [q]
  · cases h
theorem find_keys {z : Str} : ∀ {es : List DictEntry} {ks : List (Str × Int)}, es.map He.keyOf = ks.map some → (∀ e ∈ es, e.refKey = false) ∧ (es.find? (·.key.isStr z)).isSome = ks.any fun k => decide (k.1 = z)
  | [], [], _ => ⟨fun _ h => (nomatch h), rfl⟩
  | [], _ :: _, h => by cases h
  | e :: es, [], h => by cases h
  | e :: es, k :: ks, h => by
    have h1 : He.keyOf e :: es.map He.keyOf = some k :: ks.map some := h
    injection h1 with h2 h3
    obtain ⟨i1, i2⟩ := find_keys (z := z) h3
    obtain ⟨j1, j2⟩ := isStr_of (z := z) (k := k.1) (n := k.2) h2
    constructor
    · intro e' he
      rcases List.mem_cons.mp he with rfl | he
      · exact j2
      · exact i1 e' he
    · rw [List.find?_cons, List.any_cons, ← j1]
      cases e.key.isStr z with
      | true => rfl
      | false =>
        rw [Bool.false_or]
        exact i2
theorem nsIn_keys {K : PySem.W.Frag} {w : World} {a : Addr} {ks : List Str} (h : He.dicW K a = some (He.keysIn w.params ks)) (z : Str) : ∃ r, PySem.W.nsIn K a z = some r ∧ r.isSome = ks.any fun k => decide (k = z) := by
  obtain ⟨es, n, D⟩ := He.dicW_ok h
  have h2 : es.toList.map He.keyOf = (ks.map fun k => (k, PyData.keyHash w.params k)).map some := by
    unfold He.dicW at h
    rw [D.at_] at h
    have h' : (match !(a == sysModules) with
      | true => some (es.toList.map He.keyOf)
      | false => none) = some (He.keysIn w.params ks) := h
    rw [D.low] at h'
    have h3 : es.toList.map He.keyOf = He.keysIn w.params ks := Option.some.inj h'
    rw [h3, List.map_map]
    rfl
  obtain ⟨i1, i2⟩ := find_keys (z := z) h2
  have i3 : (es.toList.find? (·.key.isStr z)).isSome = ks.any fun k => decide (k = z) := by
    rw [i2, List.any_map]
    rfl
  have e0 : PySem.W.nsIn K a z = (match es.toList.find? (·.key.isStr z) with
      | some e => some (some e.val)
      | none => if es.toList.any (·.refKey) then none else some none) := by
    unfold PySem.W.nsIn
    rw [D.at_]
    rfl
  rw [e0]
  cases e : es.toList.find? (·.key.isStr z) with
  | some x =>
    rw [e] at i3
    exact ⟨some x.val, rfl, i3⟩
  | none =>
    rw [e] at i3
    refine ⟨none, ?_, i3⟩
    show (if es.toList.any (·.refKey) then none else some none) = some none
    rw [if_neg]
    intro q
    obtain ⟨x, hx, hr⟩ := List.any_eq_true.mp q
    rw [i1 x hx] at hr
    cases hr
theorem dirOf_any (z : Str) : (([("r" : Str), "u", "l", "d"] : List Str).any fun k : Str => decide (k = z)) = dirOf z := by
  have c : ∀ k : Str, decide (k = z) = decide (z = k) := fun k => by
    by_cases e : k = z
    · rw [decide_eq_true e, decide_eq_true e.symm]
    · rw [decide_eq_false e, decide_eq_false fun x => e x.symm]
  simp only [List.any_cons, List.any_nil, Bool.or_false, c]
  rfl
/-- the steps, as they stand -/
structure Steps (K : PySem.W.Frag) (w : World) (mg : Str → Option Value) (a : Addr) : Prop where
  g : mg "STEPS" = some (.ref a)
  d : He.dicW K a = some (He.keysIn w.params ["r", "u", "l", "d"])
theorem dir_cases {s : Str} (h : dirOf s = true) : s = "r" ∨ s = "u" ∨ s = "l" ∨ s = "d" := by
  unfold dirOf at h
  simp only [Bool.or_eq_true, decide_eq_true_eq] at h
  exact h

section
variable {P : Program} {w : World} {K : PySem.W.Frag} {mg : Str → Option Value} {base : Heap}
theorem scD : FnScope ["value"] ["value"] (defScope (top 13)) := ⟨rfl, rfl, rfl, by decide +kernel, rfl, by decide +kernel, by decide +kernel⟩
theorem ok_isdir {f aS : Addr} {fd : FuncData} (F : Fun K "is_direction" "is_direction" (top 13) f fd) (T : Ta mg) (S : Steps K w mg aS) : FnOk P w K mg base CX0 1 f fd ["value"] (spB dirB) := by
  refine F.ok scD spB_len (fun cdv A outer s H vs Q E hr h => ?_)
  obtain ⟨v, d, rfl, dv, q⟩ := h
  obtain ⟨es, n, D⟩ := He.dicW_ok S.d
  refine ⟨_, pss_one (ps_ret (pe_and (pe_callB call_isi (by rfl) T.isi (by decide +kernel) (pa_cons (pv 0) (pa_cons (pe_bltn (v := .ty "str") (u := .type "str") (by rfl) T.str (by decide +kernel) rfl) pa_nil)))
    (pe_one (pe_cmpR (op_in_kd D) (pv 0) (pe_glob (v := .ref aS) rfl S.g rfl) (by rfl))))), ?_⟩
  refine ⟨_, rfl, _, .ty "str", .type (tyN d), .type "str", _, rfl, .ty _, ty_of dv, kit_ty (kit_str d), _, rfl, ite2 (fun e => ?_) (fun e => ?_)⟩
  · cases d with
    | str z =>
      obtain ⟨r, h1, h2⟩ := nsIn_keys S.d z
      refine ⟨_, rfl, z, r, dv_str dv, rfl, h1, ?_⟩
      rw [h2, dirOf_any]
      exact q H (same0 H)
    | _ => cases e
  · have := q H (same0 H)
    have e2 : dirB d = false := by
      cases d with
      | str z => exact (e rfl).elim
      | _ => rfl
    rwa [e2] at this
theorem scL : FnScope ["_law_value"] ["_law_value"] (defScope (top 34)) := ⟨rfl, rfl, rfl, by decide +kernel, rfl, by decide +kernel, by decide +kernel⟩
theorem stay {H : Hp} {a b : Addr} {o u : HO} (h : H b = some u) (n : H a = none) : upd H a o b = some u := by
  rw [upd_ne (ne_of_none h n)]
  exact h
theorem shaped_str {z : Str} (h : PyData.strOk z = true) : SeqAt.shaped (.str z) = true := by simp [SeqAt.shaped, PyData.canLay0, PyData.depth, h]
/-- .. of data whose texts are texts -/
def spBs (b : PyData → Bool) : Sp := fun vs H Q _ => ∃ v d, vs = [v] ∧ DV H v d ∧ (∀ z, d = .str z → PyData.strOk z = true) ∧ ∀ H', Same H H' → Q (.bl (b d)) H'
theorem eqv_str (a b : Str) : PyData.eqv (.str a) (.str b) = decide (a = b) := by
  first
  | rfl
  | simp [PyData.eqv]
theorem ok_letter {f : Addr} {fd : FuncData} (F : Fun K "_law_is_letter" "_law_is_letter" (top 34) f fd) (T : Ta mg) : FnOk P w K mg base CX0 1 f fd ["_law_value"] (spBs dirB) := by
  refine F.ok scL (fun vs H Q E h => by obtain ⟨v, d, rfl, _⟩ := h; rfl) (fun cdv A outer s H vs Q E hr h => ?_)
  obtain ⟨v, d, rfl, dv, tx, q⟩ := h
  have hu : (A.deeper (envOfC "_law_is_letter" (defScope (top 34)) s.heap.objs.size f cdv)).units + 65 < cLine := by
    have := hr.un
    omega
  refine ⟨_, pss_one (ps_ret (pe_and (pe_callB call_isi (by rfl) T.isi (by decide +kernel) (pa_cons (pv 0) (pa_cons (pe_bltn (v := .ty "str") (u := .type "str") (by rfl) T.str (by decide +kernel) rfl) pa_nil)))
    (pe_one (pe_cmpR (op_inD hu) (pv 0) (pe_lst (pa_cons pe_str (pa_cons pe_str (pa_cons pe_str (pa_cons pe_str pa_nil))))) (by rfl))))), ?_⟩
  refine ⟨_, rfl, _, .ty "str", .type (tyN d), .type "str", _, rfl, .ty _, ty_of dv, kit_ty (kit_str d), _, rfl, ite2 (fun e => ?_) (fun e => ?_)⟩
  · cases d with
    | str z =>
      rw [dv_str dv]
      refine ⟨_, rfl, (by show 4 ≤ sizeLine; decide), fun p hp => ?_⟩
      refine ⟨.str z, [.str "r", .str "u", .str "l", .str "d"], .str z, .lst (SqL.of upd_same) (.cons (.str _) (.cons (.str _) (.cons (.str _) (.cons (.str _) .nil)))), shaped_str (tx z rfl), by decide +kernel, ?_⟩
      have := q (upd H p (.lst [V.str "r", .str "u", .str "l", .str "d"])) fun b o e => stay e hp
      have e2 : ([PyData.str "r", .str "u", .str "l", .str "d"].any fun x => PyData.eqv x (.str z)) = dirB (.str z) := by
        rw [show dirB (.str z) = dirOf z from rfl, ← dirOf_any]
        simp only [List.any_cons, List.any_nil, eqv_str]
      rw [e2]
      exact this
    | _ => cases e
  · have := q H (same0 H)
    have e2 : dirB d = false := by
      cases d with
      | str z => exact (e rfl).elim
      | _ => rfl
    rwa [e2] at this
theorem shaped_ii (a b : Int) : SeqAt.shaped (.tuple [.int a, .int b]) = true := by
  first
  | rfl
  | exact (by decide : (true && (true && true) && decide (max 0 (max 0 0) + 1 ≤ 64)) = true)
theorem eqv_ii (a b c d : Int) : PyData.eqv (.tuple [.int a, .int b]) (.tuple [.int c, .int d]) = (decide (a = c) && decide (b = d)) := by
  first
  | rfl
  | (simp [PyData.eqv, PyData.eqvAll]; done)
  | (show ((a == c) && ((b == d) && true)) = _; simp only [Bool.and_true]; rfl)
end
end K1
set_option Elab.async false
set_option linter.all false
set_option maxRecDepth 100000
set_option maxHeartbeats 16000000
namespace K1
open PySem PySem.Spec PyProof.Rows L2 Nv
/-! ### numbers: ints, and truths in their place -/
def numOf : PyData → Int
  | .int i => i
  | .bool b => if b = true then 1 else 0
  | _ => 0
def IsN (x : V) (i : Int) : Prop := x = .int i ∨ ∃ b : Bool, x = .bl b ∧ i = if b = true then 1 else 0
theorem isN_of {H : Hp} {v : V} {d : PyData} (h : DV H v d) (i : intish d = true) : IsN v (numOf d) := by
  cases h with
  | int k => exact .inl rfl
  | bl b => exact .inr ⟨b, rfl, rfl⟩
  | _ => cases i
section
variable {prog : Program} {w : World} {A : Around} {E : Value → Shared → Prop} {s : Shared} {Q : Value → Shared → Prop}
theorem gives_ge_bi (b : Bool) (a : Int) (t : Tok) : Gives (Builtin.«int.__ge__» ⟨[.bool b, .int a t], []⟩) (.val (Value.bool (decide ((if b = true then (1 : Int) else 0) ≥ a)))) :=
  .of_wp fun M A E s Q h => by obtain ⟨hp, g, d, tk, os⟩ := s; wp_walk; exact ⟨_, rfl, h⟩
theorem gives_le_bi (b : Bool) (a : Int) (t : Tok) : Gives (Builtin.«int.__le__» ⟨[.bool b, .int a t], []⟩) (.val (Value.bool (decide ((if b = true then (1 : Int) else 0) ≤ a)))) :=
  .of_wp fun M A E s Q h => by obtain ⟨hp, g, d, tk, os⟩ := s; wp_walk; exact ⟨_, rfl, h⟩
theorem gives_lt_bi (b : Bool) (a : Int) (t : Tok) : Gives (Builtin.«int.__lt__» ⟨[.bool b, .int a t], []⟩) (.val (Value.bool (decide ((if b = true then (1 : Int) else 0) < a)))) :=
  .of_wp fun M A E s Q h => by obtain ⟨hp, g, d, tk, os⟩ := s; wp_walk; exact ⟨_, rfl, h⟩
theorem le_ib {a : Int} {t : Tok} {b : Bool} (h : Q (.bool (decide (a ≤ if b = true then (1 : Int) else 0))) s) : wpAny (model prog w) A (compareOp .LtE (.int a t) (.bool b)) Q E s := by
  show wpAny _ A (richCompare .LtE _ _) Q E s
  exact SeqAt.rc_sub_first_or (typeIs_int s a t) rfl (by decide) F.sub_bool_int F.slot_bool_ge_refl
    (call_gives F.slot_bool_ge_refl rfl F.entry_int_ge (F.args_int_ge_2 _ _) (gives_ge_bi b a t) ⟨nofun, h⟩) (.inl rfl)
theorem le_bi {a : Int} {t : Tok} {b : Bool} (h : Q (.bool (decide ((if b = true then (1 : Int) else 0) ≤ a))) s) : wpAny (model prog w) A (compareOp .LtE (.bool b) (.int a t)) Q E s := by
  show wpAny _ A (richCompare .LtE _ _) Q E s
  exact SeqAt.rc_left_or rfl (typeIs_int s a t) (by decide) F.sub_int_bool F.slot_bool_le
    (call_gives F.slot_bool_le rfl F.entry_int_le (F.args_int_le_2 _ _) (gives_le_bi b a t) ⟨nofun, h⟩) (.inl rfl)
theorem lt_bi {a : Int} {t : Tok} {b : Bool} (h : Q (.bool (decide ((if b = true then (1 : Int) else 0) < a))) s) : wpAny (model prog w) A (compareOp .Lt (.bool b) (.int a t)) Q E s := by
  show wpAny _ A (richCompare .Lt _ _) Q E s
  exact SeqAt.rc_left_or rfl (typeIs_int s a t) (by decide) F.sub_int_bool F.slot_bool_lt
    (call_gives F.slot_bool_lt rfl F.entry_int_lt (F.args_int_lt_2 _ _) (gives_lt_bi b a t) ⟨nofun, h⟩) (.inl rfl)
end
/-- an int and a number -/
def rIN (g : Int → Int → V) : R2 := fun x y H Q => ∃ i j, x = .int i ∧ IsN y j ∧ Q (g i j) H
/-- a number and an int -/
def rNI (g : Int → Int → V) : R2 := fun x y H Q => ∃ i j, IsN x i ∧ y = .int j ∧ Q (g i j) H
section
variable {X : Cx}
theorem op_leIN : OpR X (compareOp .LtE) (rIN fun i j => .bl (decide (i ≤ j))) := by
  intro pins s σ H x y v u Q I rx ry h
  obtain ⟨i, j, rfl, hy, q⟩ := h
  obtain ⟨t, rfl⟩ := rx
  rcases hy with rfl | ⟨b, rfl, rfl⟩
  · obtain ⟨t', rfl⟩ := ry
    exact le_int ⟨.bl _, H, I, rfl, q⟩
  · cases ry
    exact le_ib ⟨.bl _, H, I, rfl, q⟩
theorem op_leNI : OpR X (compareOp .LtE) (rNI fun i j => .bl (decide (i ≤ j))) := by
  intro pins s σ H x y v u Q I rx ry h
  obtain ⟨i, j, hx, rfl, q⟩ := h
  obtain ⟨t, rfl⟩ := ry
  rcases hx with rfl | ⟨b, rfl, rfl⟩
  · obtain ⟨t', rfl⟩ := rx
    exact le_int ⟨.bl _, H, I, rfl, q⟩
  · cases rx
    exact le_bi ⟨.bl _, H, I, rfl, q⟩
theorem op_ltNI : OpR X (compareOp .Lt) (rNI fun i j => .bl (decide (i < j))) := by
  intro pins s σ H x y v u Q I rx ry h
  obtain ⟨i, j, hx, rfl, q⟩ := h
  obtain ⟨t, rfl⟩ := ry
  rcases hx with rfl | ⟨b, rfl, rfl⟩
  · obtain ⟨t', rfl⟩ := rx
    exact lt_int ⟨.bl _, H, I, rfl, q⟩
  · cases rx
    exact lt_bi ⟨.bl _, H, I, rfl, q⟩
theorem op_addNI : OpR X (binaryOp .Add) (rNI fun i j => .int (i + j)) := by
  intro pins s σ H x y v u Q I rx ry h
  obtain ⟨i, j, hx, rfl, q⟩ := h
  obtain ⟨t, rfl⟩ := ry
  rcases hx with rfl | ⟨b, rfl, rfl⟩
  · obtain ⟨t', rfl⟩ := rx
    exact add_int ⟨.int _, H, I.tok _, ⟨_, rfl⟩, q⟩
  · cases rx
    exact IntBool.add_bool_int ⟨.int _, H, I.tok _, ⟨_, rfl⟩, q⟩
theorem op_addIN : OpR X (binaryOp .Add) (rIN fun i j => .int (i + j)) := by
  intro pins s σ H x y v u Q I rx ry h
  obtain ⟨i, j, rfl, hy, q⟩ := h
  obtain ⟨t, rfl⟩ := rx
  rcases hy with rfl | ⟨b, rfl, rfl⟩
  · obtain ⟨t', rfl⟩ := ry
    exact add_int ⟨.int _, H, I.tok _, ⟨_, rfl⟩, q⟩
  · cases ry
    exact add_int_bool ⟨.int _, H, I.tok _, ⟨_, rfl⟩, q⟩
theorem op_mulIN : OpR X (binaryOp .Mult) (fun x y H Q => ∃ i j, x = .int i ∧ IsN y j ∧ (-(2 ^ 64) < i ∧ i < 2 ^ 64) ∧ Q (.int (i * j)) H) := by
  intro pins s σ H x y v u Q I rx ry h
  obtain ⟨i, j, rfl, hy, hc, q⟩ := h
  obtain ⟨t, rfl⟩ := rx
  rcases hy with rfl | ⟨b, rfl, rfl⟩
  · obtain ⟨t', rfl⟩ := ry
    exact mul_int ⟨.int _, H, I.tok _, ⟨_, rfl⟩, q⟩ (CMul.ok (.inl hc))
  · cases ry
    exact IntBool.mul_int_bool ⟨.int _, H, I.tok _, ⟨_, rfl⟩, q⟩
/-- x is True, x is False, of a number -/
theorem op_isB (c : Bool) : OpR X (compareOp .Is) (fun x y H Q => y = .bl c ∧ ((∃ i, x = .int i ∧ Q (.bl false) H) ∨ ∃ b, x = .bl b ∧ Q (.bl (decide (b = c))) H)) := by
  intro pins s σ H x y v u Q I rx ry h
  obtain ⟨rfl, h⟩ := h
  cases ry
  rcases h with ⟨i, rfl, q⟩ | ⟨b, rfl, q⟩
  · obtain ⟨t, rfl⟩ := rx
    exact wpAny_is_other rfl (fun z => nomatch z) ⟨.bl _, H, I, rfl, q⟩
  · cases rx
    refine wpAny_is_plain rfl ⟨.bl (decide (b = c)), H, I, ?_, q⟩
    show Value.bool (Value.bool b == Value.bool c) = Value.bool (decide (b = c))
    cases b <;> cases c <;> rfl
end
def spTr : Sp := fun vs H Q _ => ∃ x y d e, vs = [x, y] ∧ DV H x d ∧ DV H y e ∧ intish d = true ∧ intish e = true ∧ Q (.bl (boolish d || boolish e)) H
section
variable {P : Program} {w : World} {K : PySem.W.Frag} {mg : Str → Option Value} {base : Heap}
theorem isT {H : Hp} {x : V} {d : PyData} {B : Prop} {C : Bool → Prop} (h : DV H x d) (i : intish d = true) (q1 : boolish d = false → B) (q2 : ∀ b, d = .bool b → C b) :
    ((∃ i, x = .int i ∧ B) ∨ ∃ b, x = .bl b ∧ C b) := by
  cases h with
  | int k => exact .inl ⟨k, rfl, q1 rfl⟩
  | bl b => exact .inr ⟨b, rfl, q2 b rfl⟩
  | _ => cases i
theorem scT : FnScope ["x", "y"] ["x", "y"] (defScope (top 21)) := ⟨rfl, rfl, rfl, by decide +kernel, rfl, by decide +kernel, by decide +kernel⟩
theorem ok_truth {f : Addr} {fd : FuncData} (F : Fun K "_has_truth" "_has_truth" (top 21) f fd) : FnOk P w K mg base CX0 1 f fd ["x", "y"] spTr := by
  refine F.ok scT (fun vs H Q E h => by obtain ⟨x, y, d, e, rfl, _⟩ := h; rfl) (fun cdv A outer s H vs Q E hr h => ?_)
  obtain ⟨x, y, d, e, rfl, dx, dy, i1, i2, q⟩ := h
  refine ⟨_, pss_one (ps_ret (pe_or (pe_cmpR (op_isB true) (pv 0) pe_bl (nomark _)) (pe_or (pe_cmpR (op_isB false) (pv 0) pe_bl (nomark _)) (pe_or (pe_cmpR (op_isB true) (pv 1) pe_bl (nomark _)) (pe_one (pe_cmpR (op_isB false) (pv 1) pe_bl (nomark _))))))), ?_⟩
  refine ⟨_, rfl, rfl, isT dx i1 (fun n1 => ?_) fun b e1 => ?_⟩
  · refine ⟨_, rfl, _, rfl, rfl, isT dx i1 (fun n2 => ?_) fun b e1 => ?_⟩
    · rw [n1, Bool.false_or] at q
      refine ⟨_, rfl, _, rfl, rfl, isT dy i2 (fun n3 => ?_) fun b e2 => ?_⟩
      · refine ⟨_, rfl, _, rfl, rfl, isT dy i2 (fun n4 => ?_) fun b e2 => ?_⟩
        · rw [n4] at q
          exact q
        · subst e2
          cases n3
      · subst e2
        cases b with
        | true => exact ⟨_, rfl, q⟩
        | false =>
          refine ⟨_, rfl, _, rfl, rfl, isT dy i2 (fun n4 => by cases n4) fun b e2 => ?_⟩
          cases e2
          exact q
    · subst e1
      cases n1
  · subst e1
    cases b with
    | true => exact ⟨_, rfl, q⟩
    | false =>
      refine ⟨_, rfl, _, rfl, rfl, isT dx i1 (fun n4 => by cases n4) fun b e2 => ?_⟩
      cases e2
      exact ⟨_, rfl, q⟩
end
end K1
set_option Elab.async false
set_option linter.all false
set_option maxRecDepth 100000
set_option maxHeartbeats 16000000
namespace K1
open PySem PySem.Spec PyProof.Rows L2 Nv
def flatP (d : PyData) : Prop := ∀ p r, d = .tuple [p, r] → r.hasDict = false ∧ SeqAt.shaped r = true
/-- an edge has a number, all else None -/
def spNum : Sp := fun vs H Q _ => ∃ v d, vs = [v] ∧ DV H v d ∧ flatP d ∧ (edgeB d = false → ∀ H', Same H H' → Q .non H') ∧ (edgeB d = true → ∀ (n : Int) H', Same H H' → Q (.int n) H')
/-- a def that asks one value whose far parts are flat, and gives a truth -/
def spBf (b : PyData → Bool) : Sp := fun vs H Q _ => ∃ v d, vs = [v] ∧ DV H v d ∧ flatP d ∧ ∀ H', Same H H' → Q (.bl (b d)) H'

theorem edge_nopair {d : PyData} (h : pairB d = false) : edgeB d = false := by
  cases d with
  | tuple ds =>
    rcases ds with _ | ⟨a, _ | ⟨b, _ | ⟨c, r⟩⟩⟩
    · rfl
    · rfl
    · cases h
    · rfl
  | _ => rfl
theorem edge_nopt {p r : PyData} (h : ptB p = false) : edgeB (.tuple [p, r]) = false := by
  show (ptB p && _) = false
  rw [h, Bool.false_and]
theorem coo_ish {d : PyData} (h : intish d = false) : cooB d = false := by
  cases d with
  | int i => cases h
  | _ => rfl
theorem coo_num {d : PyData} (h : ¬ (0 ≤ numOf d ∧ numOf d ≤ 30)) : cooB d = false := by
  cases d with
  | int i =>
    refine Bool.eq_false_iff.mpr fun z => h ?_
    have := Bool.and_eq_true_iff.mp (show (decide (0 ≤ i) && decide (i ≤ 30)) = true from z)
    exact ⟨of_decide_eq_true this.1, of_decide_eq_true this.2⟩
  | _ => rfl
theorem pt_no1 {a b : PyData} (h : cooB a = false) : ptB (.tuple [a, b]) = false := by
  show (cooB a && cooB b) = false
  rw [h, Bool.false_and]
theorem pt_no2 {a b : PyData} (h : cooB b = false) : ptB (.tuple [a, b]) = false := by
  show (cooB a && cooB b) = false
  rw [h, Bool.and_false]
theorem ish_cases {d : PyData} (h : intish d = true) : (∃ i, d = .int i) ∨ ∃ b, d = .bool b := by
  cases d with
  | int i => exact .inl ⟨i, rfl⟩
  | bool b => exact .inr ⟨b, rfl⟩
  | _ => cases h
theorem ish_flat {d : PyData} (h : intish d = true) : d.hasDict = false := by
  rcases ish_cases h with ⟨i, rfl⟩ | ⟨b, rfl⟩ <;> rfl
theorem shaped_nn {a b : PyData} (ha : intish a = true) (hb : intish b = true) : SeqAt.shaped (.tuple [a, b]) = true := by
  rcases ish_cases ha with ⟨i, rfl⟩ | ⟨i, rfl⟩ <;> rcases ish_cases hb with ⟨j, rfl⟩ | ⟨j, rfl⟩ <;> first | rfl | exact (by decide : (true && (true && true) && decide (max 0 (max 0 0) + 1 ≤ 64)) = true)
theorem eqv_num {c a : PyData} (ha : intish a = true) : PyData.eqv c a = (intish c && decide (numOf c = numOf a)) := by
  rcases ish_cases ha with ⟨i, rfl⟩ | ⟨i, rfl⟩
  · cases c with
    | int k => rfl
    | bool k => rfl
    | _ => rfl
  · cases c with
    | int k => rfl
    | bool k => cases i <;> cases k <;> rfl
    | _ => rfl
theorem eqv_pr {c e a b : PyData} : PyData.eqv (.tuple [c, e]) (.tuple [a, b]) = (PyData.eqv c a && PyData.eqv e b) := by
  first
  | rfl
  | (simp [PyData.eqv, PyData.eqvAll]; done)
theorem eqv_pair {r a b : PyData} (h : PyData.eqv r (.tuple [a, b]) = true) : ∃ c e, r = .tuple [c, e] := by
  cases r with
  | tuple ds =>
    rcases ds with _ | ⟨c, _ | ⟨e, _ | ⟨g, r⟩⟩⟩
    · first | cases h | (simp [PyData.eqv, PyData.eqvAll] at h; done)
    · first | cases h | (simp [PyData.eqv, PyData.eqvAll] at h; done)
    · exact ⟨c, e, rfl⟩
    · first | cases h | (simp [PyData.eqv, PyData.eqvAll] at h; done)
  | _ => first | cases h | (simp [PyData.eqv] at h; done)
theorem eqv_two {r a b : PyData} (ha : intish a = true) (hb : intish b = true) (h : PyData.eqv r (.tuple [a, b]) = true) :
    ∃ c e, r = .tuple [c, e] ∧ intish c = true ∧ intish e = true ∧ numOf c = numOf a ∧ numOf e = numOf b := by
  obtain ⟨c, e, rfl⟩ := eqv_pair h
  rw [eqv_pr, eqv_num ha, eqv_num hb] at h
  simp only [Bool.and_eq_true, decide_eq_true_eq] at h
  exact ⟨c, e, rfl, h.1.1, h.2.1, h.1.2, h.2.2⟩
theorem coo_is {d : PyData} (h : intish d = true) (r : 0 ≤ numOf d ∧ numOf d ≤ 30) : cooB d = !boolish d := by
  rcases ish_cases h with ⟨i, rfl⟩ | ⟨b, rfl⟩
  · have r : 0 ≤ i ∧ i ≤ 30 := r
    show (decide (0 ≤ i) && decide (i ≤ 30)) = true
    rw [decide_eq_true r.1, decide_eq_true r.2]
    rfl
  · rfl
theorem num_big {d : PyData} (h : intish d = true) (r : 2 ≤ numOf d) : boolish d = false := by
  rcases ish_cases h with ⟨i, rfl⟩ | ⟨b, rfl⟩
  · rfl
  · cases b <;> exact absurd r (by decide)
theorem edge_is {a b c e : PyData} (ha : intish a = true) (hb : intish b = true) (hc : intish c = true) (he : intish e = true) (ra : 0 ≤ numOf a ∧ numOf a ≤ 30) (rb : 0 ≤ numOf b ∧ numOf b ≤ 30) (rc : 0 ≤ numOf c ∧ numOf c ≤ 30) (re : 0 ≤ numOf e ∧ numOf e ≤ 30)
    (st : (numOf c = numOf a ∧ numOf e = numOf b + 1) ∨ (numOf c = numOf a + 1 ∧ numOf e = numOf b)) : edgeB (.tuple [.tuple [a, b], .tuple [c, e]]) = !((boolish a || boolish b) || (boolish c || boolish e)) := by
  show ((cooB a && cooB b) && ((cooB c && cooB e) && stepB _ _)) = _
  rw [coo_is ha ra, coo_is hb rb, coo_is hc rc, coo_is he re]
  rcases ish_cases ha with ⟨i, rfl⟩ | ⟨i, rfl⟩
  · rcases ish_cases hb with ⟨j, rfl⟩ | ⟨j, rfl⟩
    · rcases ish_cases hc with ⟨k, rfl⟩ | ⟨k, rfl⟩
      · rcases ish_cases he with ⟨l, rfl⟩ | ⟨l, rfl⟩
        · show stepB _ _ = true
          show ((decide (k - i = 1) && decide (l - j = 0)) || (decide (k - i = 0) && decide (l - j = 1))) = true
          simp only [Bool.or_eq_true, Bool.and_eq_true, decide_eq_true_eq]
          have st : (k = i ∧ l = j + 1) ∨ (k = i + 1 ∧ l = j) := st
          omega
        · rfl
      · rfl
    · rfl
  · rfl
theorem edge_no {a b r : PyData} (ha : intish a = true) (hb : intish b = true) (n1 : ¬ (PyData.eqv r (.tuple [a, .int (numOf b + 1)]) = true ∧ numOf b < 30)) (n2 : ¬ (PyData.eqv r (.tuple [.int (numOf a + 1), b]) = true ∧ numOf a < 30)) : edgeB (.tuple [.tuple [a, b], r]) = false := by
  refine Bool.eq_false_iff.mpr fun z => ?_
  have z : (ptB (.tuple [a, b]) && (ptB r && stepB (.tuple [a, b]) r)) = true := z
  simp only [Bool.and_eq_true] at z
  obtain ⟨z1, z2, z3⟩ := z
  obtain ⟨i, j, e1, b1⟩ := pt_of z1
  obtain ⟨k, l, rfl, b2⟩ := pt_of z2
  cases e1
  rw [eqv_pr, eqv_num ha, eqv_num (show intish (.int _) = true from rfl)] at n1
  rw [eqv_pr, eqv_num hb, eqv_num (show intish (.int _) = true from rfl)] at n2
  have z3 : ((decide (k - i = 1) && decide (l - j = 0)) || (decide (k - i = 0) && decide (l - j = 1))) = true := z3
  simp only [Bool.or_eq_true, Bool.and_eq_true, decide_eq_true_eq] at z3
  have n1 : ¬ (((true && decide (k = i)) && (true && decide (l = j + 1))) = true ∧ j < 30) := n1
  have n2 : ¬ (((true && decide (k = i + 1)) && (true && decide (l = j))) = true ∧ i < 30) := n2
  simp only [Bool.true_and, Bool.and_eq_true, decide_eq_true_eq] at n1 n2
  omega
section
variable {P : Program} {w : World} {K : PySem.W.Frag} {mg : Str → Option Value} {base : Heap}
theorem spBf_len {b : PyData → Bool} {n : Str} : ∀ (vs : List V) (H : Hp) (Q : VK) (E : XK), spBf b vs H Q E → vs.length = [n].length := fun vs H Q E h => by
  obtain ⟨v, d, rfl, _⟩ := h
  rfl
theorem spNum_len {n : Str} : ∀ (vs : List V) (H : Hp) (Q : VK) (E : XK), spNum vs H Q E → vs.length = [n].length := fun vs H Q E h => by
  obtain ⟨v, d, rfl, _⟩ := h
  rfl
theorem scEN : FnScope ["value", "point", "other", "x", "y", "number", "far_x", "far_y"] ["value"] (defScope (top 15)) := ⟨rfl, rfl, rfl, by decide +kernel, rfl, by decide +kernel, by decide +kernel⟩

theorem ok_enum {f fT : Addr} {fd fdT : FuncData} (F : Fun K "edge_number" "edge_number" (top 15) f fd) (T : Ta mg) (hS : ∃ t, mg "SIDE" = some (.int 31 t)) (GT : FnOk P w K mg base CX0 1 fT fdT ["x", "y"] spTr) (AT : At K mg "_has_truth" fT fdT ["x", "y"]) :
    FnOk P w K mg base CX0 3 f fd ["value"] spNum := by
  refine F.ok scEN spNum_len (fun cdv A outer s H vs Q E hr h => ?_)
  obtain ⟨v, d, rfl, dv, fl, qn, qi⟩ := h
  obtain ⟨tL, hL⟩ := T.last
  obtain ⟨tS, hS⟩ := hS
  have hu : (A.deeper (envOfC "edge_number" (defScope (top 15)) s.heap.objs.size f cdv)).units + 64 < cLine := by
    have := hr.un
    omega
  refine ⟨_, (pss_cons (ps_if (PW.pt (pw_or (pt_not (pt_val (pe_callB call_isi (by rfl) T.isi (by decide +kernel) (pa_cons (pv 0) (pa_cons (pe_bltn (v := .ty "tuple") (u := .type "tuple") (by rfl) T.tup (by decide +kernel) rfl) pa_nil))))) (pw_or1 (pt_cmpR op_ne (pe_callB call_len_seq (by rfl) T.len PySem.boot_len (pa_cons (pv 0) pa_nil)) pe_int (nomark _))))) (pss_one (ps_ret pe_non)) pss_nil)
    (pss_cons (ps_asg (pv 0) (pg_tup rfl (pgs_cons (pg_name (i := 1) scEN.nd rfl (Or.inl rfl)) (pgs_cons (pg_name (i := 2) scEN.nd rfl (Or.inl rfl)) pgs_nil))))
    (pss_cons (ps_if (PW.pt (pw_or (pt_not (pt_val (pe_callB call_isi (by rfl) T.isi (by decide +kernel) (pa_cons (pv 1) (pa_cons (pe_bltn (v := .ty "tuple") (u := .type "tuple") (by rfl) T.tup (by decide +kernel) rfl) pa_nil))))) (pw_or1 (pt_cmpR op_ne (pe_callB call_len_seq (by rfl) T.len PySem.boot_len (pa_cons (pv 1) pa_nil)) pe_int (nomark _))))) (pss_one (ps_ret pe_non)) pss_nil)
    (pss_cons (ps_asg (pv 1) (pg_tup rfl (pgs_cons (pg_name (i := 3) scEN.nd rfl (Or.inl rfl)) (pgs_cons (pg_name (i := 4) scEN.nd rfl (Or.inl rfl)) pgs_nil))))
    (pss_cons (ps_if (PW.pt (pw_or (pt_not (pt_val (pe_callB call_isi (by rfl) T.isi (by decide +kernel) (pa_cons (pv 3) (pa_cons (pe_bltn (v := .ty "int") (u := .type "int") (by rfl) T.int (by decide +kernel) rfl) pa_nil))))) (pw_or (pt_not (pt_val (pe_callB call_isi (by rfl) T.isi (by decide +kernel) (pa_cons (pv 4) (pa_cons (pe_bltn (v := .ty "int") (u := .type "int") (by rfl) T.int (by decide +kernel) rfl) pa_nil))))) (pw_or (pt_not (pt_chain op_leIN op_leNI pe_int (pv 3) (pe_glob (v := .int 30) rfl hL ⟨_, rfl⟩))) (pw_or1 (pt_not (pt_chain op_leIN op_leNI pe_int (pv 4) (pe_glob (v := .int 30) rfl hL ⟨_, rfl⟩)))))))) (pss_one (ps_ret pe_non)) pss_nil)
    (pss_cons (ps_if (PW.pt (pw_and (pt_cmpR (op_eqD hu) (pv 2) (pe_tup (pa_cons (pv 3) (pa_cons (pe_op op_addNI (pv 4) pe_int) pa_nil))) (by rfl)) (pw_and1 (pt_cmpR op_ltNI (pv 4) (pe_glob (v := .int 30) rfl hL ⟨_, rfl⟩) (nomark _)))))
      (pss_one (ps_set (i := 5) scEN.nd rfl (Or.inl rfl) (pe_op op_mul pe_int (pe_op op_addIN (pe_op op_mulIN (pe_glob (v := .int 31) rfl hS ⟨_, rfl⟩) (pv 3)) (pv 4)))))
      (pss_one (ps_if (PW.pt (pw_and (pt_cmpR (op_eqD hu) (pv 2) (pe_tup (pa_cons (pe_op op_addNI (pv 3) pe_int) (pa_cons (pv 4) pa_nil))) (by rfl)) (pw_and1 (pt_cmpR op_ltNI (pv 3) (pe_glob (v := .int 30) rfl hL ⟨_, rfl⟩) (nomark _)))))
      (pss_one (ps_set (i := 5) scEN.nd rfl (Or.inl rfl) (pe_op op_add (pe_op op_mul pe_int (pe_op op_addIN (pe_op op_mulIN (pe_glob (v := .int 31) rfl hS ⟨_, rfl⟩) (pv 3)) (pv 4))) pe_int))) (pss_one (ps_ret pe_non)))))
    (pss_cons (ps_if (PW.pt (pw_or (pt_cmpR op_ltNI (pv 3) pe_int (nomark _)) (pw_or1 (pt_cmpR op_ltNI (pv 4) pe_int (nomark _)))))
      (pss_cons (ps_asg (pv 2) (pg_tup rfl (pgs_cons (pg_name (i := 6) scEN.nd rfl (Or.inl rfl)) (pgs_cons (pg_name (i := 7) scEN.nd rfl (Or.inl rfl)) pgs_nil)))) (pss_one (ps_if (PW.pt (pw_or (pt_val (pe_call GT (hr.mono (by decide)) rfl AT.g AT.k AT.b .nil pass0 (pa_cons (pv 3) (pa_cons (pv 4) pa_nil)))) (pw_or1 (pt_val (pe_call GT (hr.mono (by decide)) rfl AT.g AT.k AT.b .nil pass0 (pa_cons (pv 6) (pa_cons (pv 7) pa_nil))))))) (pss_one (ps_ret pe_non)) pss_nil))) pss_nil)
    (pss_one (ps_ret (pv 5)))))))))), ?_⟩
  refine ⟨_, rfl, _, .ty "tuple", .type (tyN d), .type "tuple", _, rfl, .ty _, ty_of dv, kit_ty (kit_tuple d), _, rfl, ?_⟩
  cases e : tupish d with
  | false => exact qn (edge_nopair (pair_tup e)) H (same0 H)
  | true =>
    obtain ⟨ds, rfl⟩ := tupish_of e
    obtain ⟨a, xs, rfl, h1, r0⟩ := dv_tup dv
    refine ⟨_, rfl, a, xs, rfl, .inr (sqt h1), rfl, _, rfl, ?_⟩
    cases e1 : (!decide (V.int (xs.length : Int) = V.int 2)) with
    | true =>
      rw [r0.length] at e1
      exact qn (edge_nopair (pair_nolen e1)) H (same0 H)
    | false =>
      rw [r0.length] at e1
      obtain ⟨p, r, rfl⟩ := pair_len e1
      obtain ⟨a', vp, vr, ea, h1', hp, hvr⟩ := dv_pair dv
      cases ea
      obtain ⟨fr, sr⟩ := fl p r rfl
      refine ⟨_, rfl, a, _, rfl, sqt h1', rfl, _, _, rfl, _, _, rfl, rfl, ?_⟩
      refine ⟨_, rfl, _, .ty "tuple", .type (tyN p), .type "tuple", _, rfl, .ty _, ty_of hp, kit_ty (kit_tuple p), _, rfl, ?_⟩
      cases e2 : tupish p with
      | false => exact qn (edge_nopt (ptB_pair (pair_tup e2))) H (same0 H)
      | true =>
        obtain ⟨ps, rfl⟩ := tupish_of e2
        obtain ⟨b, ys, rfl, h2, r2⟩ := dv_tup hp
        refine ⟨_, rfl, b, ys, rfl, .inr (sqt h2), rfl, _, rfl, ?_⟩
        cases e3 : (!decide (V.int (ys.length : Int) = V.int 2)) with
        | true =>
          rw [r2.length] at e3
          exact qn (edge_nopt (ptB_pair (pair_nolen e3))) H (same0 H)
        | false =>
          rw [r2.length] at e3
          obtain ⟨dx, dy, rfl⟩ := pair_len e3
          obtain ⟨b', x, y, eb, h2', hx, hy⟩ := dv_pair hp
          cases eb
          refine ⟨_, rfl, b, _, rfl, sqt h2', rfl, _, _, rfl, _, _, rfl, rfl, ?_⟩
          refine ⟨_, rfl, _, .ty "int", .type (tyN dx), .type "int", _, rfl, .ty _, ty_of hx, kit_ty (kit_int dx), _, rfl, ?_⟩
          cases i1 : intish dx with
          | false => exact qn (edge_nopt (pt_no1 (coo_ish i1))) H (same0 H)
          | true =>
            refine ⟨_, rfl, _, .ty "int", .type (tyN dy), .type "int", _, rfl, .ty _, ty_of hy, kit_ty (kit_int dy), _, rfl, ?_⟩
            cases i2 : intish dy with
            | false => exact qn (edge_nopt (pt_no2 (coo_ish i2))) H (same0 H)
            | true =>
              have nX := isN_of hx i1
              have nY := isN_of hy i2
              refine ⟨_, rfl, _, _, rfl, nX, _, rfl, ite2 (fun x0 => ?_) (fun x0 => ?_)⟩
              · refine ⟨_, _, nX, rfl, _, rfl, ?_⟩
                cases x1 : decide (numOf dx ≤ 30) with
                | false => exact qn (edge_nopt (pt_no1 (coo_num fun z => of_decide_eq_false x1 z.2))) H (same0 H)
                | true =>
                  refine ⟨_, rfl, _, _, rfl, nY, _, rfl, ite2 (fun y0 => ?_) (fun y0 => ?_)⟩
                  · refine ⟨_, _, nY, rfl, _, rfl, ?_⟩
                    cases y1 : decide (numOf dy ≤ 30) with
                    | false => exact qn (edge_nopt (pt_no2 (coo_num fun z => of_decide_eq_false y1 z.2))) H (same0 H)
                    | true =>
                      have x0 : 0 ≤ numOf dx := of_decide_eq_true x0
                      have x1 : numOf dx ≤ 30 := of_decide_eq_true x1
                      have y0 : 0 ≤ numOf dy := of_decide_eq_true y0
                      have y1 : numOf dy ≤ 30 := of_decide_eq_true y1
                      refine ⟨_, rfl, _, rfl, _, rfl, _, _, nY, rfl, (by show 2 ≤ sizeLine; decide), fun p1 hp1 => ?_⟩
                      have s1 : Same H (upd H p1 (.tup [x, .int (numOf dy + 1)])) := fun b o e => stay e hp1
                      refine ⟨r, .tuple [dx, .int (numOf dy + 1)], dv_dp (hvr.more s1) fr, .tup (sqt upd_same) (.cons (dv_dp (hx.more s1) (ish_flat i1)) (.cons (.int _) .nil)), sr, shaped_nn i1 rfl, _, rfl, ite2 (fun q1 => ?_) (fun q1 => ?_)⟩
                      · refine ⟨_, rfl, _, _, nY, rfl, _, rfl, ite2 (fun w1 => ?_) (fun w1 => ?_)⟩
                        · have w1 : numOf dy < 30 := of_decide_eq_true w1
                          refine ⟨_, rfl, _, _, rfl, nX, (by decide), _, rfl, _, _, rfl, nY, _, _, rfl, rfl, .inl (by decide), ?_⟩
                          obtain ⟨c, e4, rfl, ic, ie, nc, ne⟩ := eqv_two i1 (show intish (.int _) = true from rfl) q1
                          have nc : numOf c = numOf dx := nc
                          have ne : numOf e4 = numOf dy + 1 := ne
                          have ed := edge_is (a := dx) (b := dy) (c := c) (e := e4) i1 i2 ic ie (by omega) (by omega) (by omega) (by omega) (by omega)
                          obtain ⟨br, vc, ve, er, hbr, hc, he⟩ := dv_pair (hvr.more s1)
                          subst er
                          refine ⟨_, rfl, _, _, nX, rfl, _, rfl, ite2 (fun c1 => ?_) (fun c1 => ⟨_, rfl, _, _, nY, rfl, _, rfl, ite2 (fun c2 => ?_) (fun c2 => ?_)⟩)⟩
                          · refine ⟨_, rfl, br, _, rfl, sqt hbr, rfl, _, _, rfl, _, _, rfl, rfl, ?_⟩
                            refine ⟨_, rfl, _, rfl, x, y, dx, dy, rfl, hx.more s1, hy.more s1, i1, i2, _, rfl, ite2 (fun t1 => ?_) (fun t1 => ?_)⟩
                            · exact qn (by rw [ed, t1]; rfl) _ s1
                            · refine ⟨_, rfl, _, rfl, vc, ve, c, e4, rfl, hc, he, ic, ie, _, rfl, ite2 (fun t2 => ?_) (fun t2 => ?_)⟩
                              · exact qn (by rw [ed, t2, Bool.or_true]; rfl) _ s1
                              · exact ⟨_, rfl, qi (by rw [ed, (Bool.not_eq_true _).mp t1, (Bool.not_eq_true _).mp t2]; rfl) _ _ s1⟩
                          · refine ⟨_, rfl, br, _, rfl, sqt hbr, rfl, _, _, rfl, _, _, rfl, rfl, ?_⟩
                            refine ⟨_, rfl, _, rfl, x, y, dx, dy, rfl, hx.more s1, hy.more s1, i1, i2, _, rfl, ite2 (fun t1 => ?_) (fun t1 => ?_)⟩
                            · exact qn (by rw [ed, t1]; rfl) _ s1
                            · refine ⟨_, rfl, _, rfl, vc, ve, c, e4, rfl, hc, he, ic, ie, _, rfl, ite2 (fun t2 => ?_) (fun t2 => ?_)⟩
                              · exact qn (by rw [ed, t2, Bool.or_true]; rfl) _ s1
                              · exact ⟨_, rfl, qi (by rw [ed, (Bool.not_eq_true _).mp t1, (Bool.not_eq_true _).mp t2]; rfl) _ _ s1⟩
                          · have c1 : ¬ numOf dx < 2 := fun z => c1 (decide_eq_true z)
                            have c2 : ¬ numOf dy < 2 := fun z => c2 (decide_eq_true z)
                            exact ⟨_, rfl, qi (by rw [ed, num_big i1 (by omega), num_big i2 (by omega), num_big ic (by omega), num_big ie (by omega)]; rfl) _ _ s1⟩
                        · refine ⟨_, rfl, _, rfl, _, _, nX, rfl, _, rfl, (by show 2 ≤ sizeLine; decide), fun p2 hp2 => ?_⟩
                          have s2 : Same H (upd (upd H p1 (.tup [x, .int (numOf dy + 1)])) p2 (.tup [.int (numOf dx + 1), y])) := fun b o e => stay (s1 b o e) hp2
                          refine ⟨r, .tuple [.int (numOf dx + 1), dy], dv_dp (hvr.more s2) fr, .tup (sqt upd_same) (.cons (.int _) (.cons (dv_dp (hy.more s2) (ish_flat i2)) .nil)), sr, shaped_nn rfl i2, _, rfl, ite2 (fun q2 => ?_) (fun q2 => ?_)⟩
                          · refine ⟨_, rfl, _, _, nX, rfl, _, rfl, ite2 (fun w2 => ?_) (fun w2 => ?_)⟩
                            · have w2 : numOf dx < 30 := of_decide_eq_true w2
                              refine ⟨_, rfl, _, _, rfl, nX, (by decide), _, rfl, _, _, rfl, nY, _, _, rfl, rfl, .inl (by decide), _, _, rfl, rfl, ?_⟩
                              obtain ⟨c, e4, rfl, ic, ie, nc, ne⟩ := eqv_two (show intish (.int _) = true from rfl) i2 q2
                              have nc : numOf c = numOf dx + 1 := nc
                              have ne : numOf e4 = numOf dy := ne
                              have ed := edge_is (a := dx) (b := dy) (c := c) (e := e4) i1 i2 ic ie (by omega) (by omega) (by omega) (by omega) (by omega)
                              obtain ⟨br, vc, ve, er, hbr, hc, he⟩ := dv_pair (hvr.more s2)
                              subst er
                              refine ⟨_, rfl, _, _, nX, rfl, _, rfl, ite2 (fun c1 => ?_) (fun c1 => ⟨_, rfl, _, _, nY, rfl, _, rfl, ite2 (fun c2 => ?_) (fun c2 => ?_)⟩)⟩
                              · refine ⟨_, rfl, br, _, rfl, sqt hbr, rfl, _, _, rfl, _, _, rfl, rfl, ?_⟩
                                refine ⟨_, rfl, _, rfl, x, y, dx, dy, rfl, hx.more s2, hy.more s2, i1, i2, _, rfl, ite2 (fun t1 => ?_) (fun t1 => ?_)⟩
                                · exact qn (by rw [ed, t1]; rfl) _ s2
                                · refine ⟨_, rfl, _, rfl, vc, ve, c, e4, rfl, hc, he, ic, ie, _, rfl, ite2 (fun t2 => ?_) (fun t2 => ?_)⟩
                                  · exact qn (by rw [ed, t2, Bool.or_true]; rfl) _ s2
                                  · exact ⟨_, rfl, qi (by rw [ed, (Bool.not_eq_true _).mp t1, (Bool.not_eq_true _).mp t2]; rfl) _ _ s2⟩
                              · refine ⟨_, rfl, br, _, rfl, sqt hbr, rfl, _, _, rfl, _, _, rfl, rfl, ?_⟩
                                refine ⟨_, rfl, _, rfl, x, y, dx, dy, rfl, hx.more s2, hy.more s2, i1, i2, _, rfl, ite2 (fun t1 => ?_) (fun t1 => ?_)⟩
                                · exact qn (by rw [ed, t1]; rfl) _ s2
                                · refine ⟨_, rfl, _, rfl, vc, ve, c, e4, rfl, hc, he, ic, ie, _, rfl, ite2 (fun t2 => ?_) (fun t2 => ?_)⟩
                                  · exact qn (by rw [ed, t2, Bool.or_true]; rfl) _ s2
                                  · exact ⟨_, rfl, qi (by rw [ed, (Bool.not_eq_true _).mp t1, (Bool.not_eq_true _).mp t2]; rfl) _ _ s2⟩
                              · have c1 : ¬ numOf dx < 2 := fun z => c1 (decide_eq_true z)
                                have c2 : ¬ numOf dy < 2 := fun z => c2 (decide_eq_true z)
                                exact ⟨_, rfl, qi (by rw [ed, num_big i1 (by omega), num_big i2 (by omega), num_big ic (by omega), num_big ie (by omega)]; rfl) _ _ s2⟩
                            · exact qn (edge_no i1 i2 (fun z => w1 (decide_eq_true z.2)) fun z => w2 (decide_eq_true z.2)) _ s2
                          · exact qn (edge_no i1 i2 (fun z => w1 (decide_eq_true z.2)) fun z => q2 z.1) _ s2
                      · refine ⟨_, rfl, _, rfl, _, _, nX, rfl, _, rfl, (by show 2 ≤ sizeLine; decide), fun p2 hp2 => ?_⟩
                        have s2 : Same H (upd (upd H p1 (.tup [x, .int (numOf dy + 1)])) p2 (.tup [.int (numOf dx + 1), y])) := fun b o e => stay (s1 b o e) hp2
                        refine ⟨r, .tuple [.int (numOf dx + 1), dy], dv_dp (hvr.more s2) fr, .tup (sqt upd_same) (.cons (.int _) (.cons (dv_dp (hy.more s2) (ish_flat i2)) .nil)), sr, shaped_nn rfl i2, _, rfl, ite2 (fun q2 => ?_) (fun q2 => ?_)⟩
                        · refine ⟨_, rfl, _, _, nX, rfl, _, rfl, ite2 (fun w2 => ?_) (fun w2 => ?_)⟩
                          · have w2 : numOf dx < 30 := of_decide_eq_true w2
                            refine ⟨_, rfl, _, _, rfl, nX, (by decide), _, rfl, _, _, rfl, nY, _, _, rfl, rfl, .inl (by decide), _, _, rfl, rfl, ?_⟩
                            obtain ⟨c, e4, rfl, ic, ie, nc, ne⟩ := eqv_two (show intish (.int _) = true from rfl) i2 q2
                            have nc : numOf c = numOf dx + 1 := nc
                            have ne : numOf e4 = numOf dy := ne
                            have ed := edge_is (a := dx) (b := dy) (c := c) (e := e4) i1 i2 ic ie (by omega) (by omega) (by omega) (by omega) (by omega)
                            obtain ⟨br, vc, ve, er, hbr, hc, he⟩ := dv_pair (hvr.more s2)
                            subst er
                            refine ⟨_, rfl, _, _, nX, rfl, _, rfl, ite2 (fun c1 => ?_) (fun c1 => ⟨_, rfl, _, _, nY, rfl, _, rfl, ite2 (fun c2 => ?_) (fun c2 => ?_)⟩)⟩
                            · refine ⟨_, rfl, br, _, rfl, sqt hbr, rfl, _, _, rfl, _, _, rfl, rfl, ?_⟩
                              refine ⟨_, rfl, _, rfl, x, y, dx, dy, rfl, hx.more s2, hy.more s2, i1, i2, _, rfl, ite2 (fun t1 => ?_) (fun t1 => ?_)⟩
                              · exact qn (by rw [ed, t1]; rfl) _ s2
                              · refine ⟨_, rfl, _, rfl, vc, ve, c, e4, rfl, hc, he, ic, ie, _, rfl, ite2 (fun t2 => ?_) (fun t2 => ?_)⟩
                                · exact qn (by rw [ed, t2, Bool.or_true]; rfl) _ s2
                                · exact ⟨_, rfl, qi (by rw [ed, (Bool.not_eq_true _).mp t1, (Bool.not_eq_true _).mp t2]; rfl) _ _ s2⟩
                            · refine ⟨_, rfl, br, _, rfl, sqt hbr, rfl, _, _, rfl, _, _, rfl, rfl, ?_⟩
                              refine ⟨_, rfl, _, rfl, x, y, dx, dy, rfl, hx.more s2, hy.more s2, i1, i2, _, rfl, ite2 (fun t1 => ?_) (fun t1 => ?_)⟩
                              · exact qn (by rw [ed, t1]; rfl) _ s2
                              · refine ⟨_, rfl, _, rfl, vc, ve, c, e4, rfl, hc, he, ic, ie, _, rfl, ite2 (fun t2 => ?_) (fun t2 => ?_)⟩
                                · exact qn (by rw [ed, t2, Bool.or_true]; rfl) _ s2
                                · exact ⟨_, rfl, qi (by rw [ed, (Bool.not_eq_true _).mp t1, (Bool.not_eq_true _).mp t2]; rfl) _ _ s2⟩
                            · have c1 : ¬ numOf dx < 2 := fun z => c1 (decide_eq_true z)
                              have c2 : ¬ numOf dy < 2 := fun z => c2 (decide_eq_true z)
                              exact ⟨_, rfl, qi (by rw [ed, num_big i1 (by omega), num_big i2 (by omega), num_big ic (by omega), num_big ie (by omega)]; rfl) _ _ s2⟩
                          · exact qn (edge_no i1 i2 (fun z => q1 z.1) fun z => w2 (decide_eq_true z.2)) _ s2
                        · exact qn (edge_no i1 i2 (fun z => q1 z.1) fun z => q2 z.1) _ s2
                  · exact ⟨_, rfl, qn (edge_nopt (pt_no2 (coo_num fun z => y0 (decide_eq_true z.1)))) H (same0 H)⟩
              · exact ⟨_, rfl, qn (edge_nopt (pt_no1 (coo_num fun z => x0 (decide_eq_true z.1)))) H (same0 H)⟩
theorem scE : FnScope ["value"] ["value"] (defScope (top 14)) := ⟨rfl, rfl, rfl, by decide +kernel, rfl, by decide +kernel, by decide +kernel⟩
theorem ok_isedge {f fN : Addr} {fd fdN : FuncData} (F : Fun K "is_edge" "is_edge" (top 14) f fd) (GN : FnOk P w K mg base CX0 3 fN fdN ["value"] spNum) (AN : At K mg "edge_number" fN fdN ["value"]) : FnOk P w K mg base CX0 4 f fd ["value"] (spBf edgeB) := by
  refine F.ok scE spBf_len (fun cdv A outer s H vs Q E hr h => ?_)
  obtain ⟨v, d, rfl, dv, fl, q⟩ := h
  refine ⟨_, pss_one (ps_ret (pe_cmpR op_notN (pe_call GN hr rfl AN.g AN.k AN.b .nil pass0 (pa_cons (pv 0) pa_nil)) pe_non (nomark _))), ?_⟩
  refine ⟨_, rfl, v, d, rfl, dv, fl, fun e H' s => ⟨rfl, ?_⟩, fun e n H' s => ⟨rfl, ?_⟩⟩
  · have := q H' s
    rw [e] at this
    exact this
  · have := q H' s
    rw [e] at this
    exact this
end
end K1
set_option Elab.async false
set_option linter.all false
set_option maxRecDepth 100000
set_option maxHeartbeats 16000000
namespace K1
open PySem PySem.Spec PyProof.Rows L2 Nv
structure Tm (mg : Str → Option Value) : Prop where
  min : mg "min" = none
  max : mg "max" = none
def spNear : Sp := fun vs H Q _ => ∃ (v u : V) (i j k l : Int), vs = [v, u] ∧ DV H v (.tuple [.int i, .int j]) ∧ DV H u (.tuple [.int k, .int l]) ∧ (0 ≤ i ∧ i ≤ 30 ∧ 0 ≤ j ∧ j ≤ 30) ∧ (0 ≤ k ∧ k ≤ 30 ∧ 0 ≤ l ∧ l ≤ 30) ∧
  Q (.bl (decide ((i - k) ^ 2 + (j - l) ^ 2 = 1))) H
section
variable {P : Program} {w : World} {K : PySem.W.Frag} {mg : Str → Option Value} {base : Heap}
theorem scLP : FnScope ["_law_value"] ["_law_value"] (defScope (top 29)) := ⟨rfl, rfl, rfl, by decide +kernel, rfl, by decide +kernel, by decide +kernel⟩
theorem ok_lpoint {f fI : Addr} {fd fdI : FuncData} (F : Fun K "_law_point" "_law_point" (top 29) f fd) (T : Ta mg) (M : Tm mg) (GI : FnOk P w K mg base CX0 1 fI fdI ["_law_value"] (spB intB)) (AI : At K mg "_law_integer" fI fdI ["_law_value"]) :
    FnOk P w K mg base CX0 2 f fd ["_law_value"] (spB ptB) := by
  refine F.ok scLP spB_len (fun cdv A outer s H vs Q E hr h => ?_)
  obtain ⟨v, d, rfl, dv, q⟩ := h
  refine ⟨_, pss_cons (ps_if (PW.pt (pw_or (pt_not (pt_val (pe_callB call_isi (by rfl) T.isi (by decide +kernel) (pa_cons (pv 0) (pa_cons (pe_bltn (v := .ty "tuple") (u := .type "tuple") (by rfl) T.tup (by decide +kernel) rfl) pa_nil)))))
      (pw_or (pt_cmpR op_ne (pe_callB call_len_seq (by rfl) T.len PySem.boot_len (pa_cons (pv 0) pa_nil)) pe_int (nomark _))
      (pw_or (pt_not (pt_val (pe_call GI hr rfl AI.g AI.k AI.b .nil pass0 (pa_cons (pe_ix ix_tup (pv 0) pe_int (fun _ _ => rfl)) pa_nil))))
      (pw_or1 (pt_not (pt_val (pe_call GI hr rfl AI.g AI.k AI.b .nil pass0 (pa_cons (pe_ix ix_tup (pv 0) pe_int (fun _ _ => rfl)) pa_nil))))))))) (pss_one (ps_ret pe_bl)) pss_nil)
    (pss_one (ps_ret (pe_and (pe_cmpR op_ge (pe_callB (cr_min rfl) (by rfl) M.min (by decide +kernel) (pa_cons (pe_lst (pa_cons (pe_ix ix_tup (pv 0) pe_int (fun _ _ => rfl)) (pa_cons (pe_ix ix_tup (pv 0) pe_int (fun _ _ => rfl)) pa_nil))) pa_nil)) pe_int (nomark _))
      (pe_one (pe_cmpR op_le (pe_callB (cr_max rfl) (by rfl) M.max (by decide +kernel) (pa_cons (pe_lst (pa_cons (pe_ix ix_tup (pv 0) pe_int (fun _ _ => rfl)) (pa_cons (pe_ix ix_tup (pv 0) pe_int (fun _ _ => rfl)) pa_nil))) pa_nil)) pe_int (nomark _)))))), ?_⟩
  refine ⟨_, rfl, _, .ty "tuple", .type (tyN d), .type "tuple", _, rfl, .ty _, ty_of dv, kit_ty (kit_tuple d), _, rfl, ?_⟩
  cases e : tupish d with
  | false =>
    have := q H (same0 H)
    have e2 : ptB d = false := by
      cases d with
      | tuple ds => cases e
      | _ => rfl
    rwa [e2] at this
  | true =>
    obtain ⟨ds, rfl⟩ := tupish_of e
    obtain ⟨a, xs, rfl, h1, r⟩ := dv_tup dv
    refine ⟨_, rfl, a, xs, rfl, .inr (sqt h1), rfl, _, rfl, ?_⟩
    cases e1 : (!decide (V.int (xs.length : Int) = V.int 2)) with
    | true =>
      have := q H (same0 H)
      have e2 : ptB (.tuple ds) = false := by
        rw [r.length] at e1
        rcases ds with _ | ⟨a, _ | ⟨b, _ | ⟨c, r0⟩⟩⟩
        · rfl
        · rfl
        · cases e1
        · rfl
      rwa [e2] at this
    | false =>
      have e2 : pairB (.tuple ds) = true := by
        rw [r.length] at e1
        rcases ds with _ | ⟨a, _ | ⟨b, _ | ⟨c, r0⟩⟩⟩
        · cases e1
        · cases e1
        · rfl
        · have := of_decide_eq_true (by simpa using e1 : decide (V.int (((a :: b :: c :: r0).length : Nat) : Int) = V.int 2) = true)
          have := V.int.inj this
          simp only [List.length_cons] at this
          omega
      obtain ⟨da, db, e3⟩ := pair_of e2
      cases e3
      obtain ⟨a', x, y, ea, h1', hx, hy⟩ := dv_pair dv
      cases ea
      refine ⟨_, rfl, a, _, _, x, rfl, rfl, sqt h1', rfl, x, da, rfl, hx, fun H2 s2 => ⟨_, rfl, ?_⟩⟩
      cases i1 : intB da with
      | false =>
        have := q H2 s2
        rwa [show ptB (.tuple [da, db]) = false from and_f (by rw [coo_int i1]; exact Bool.false_ne_true)] at this
      | true =>
        refine ⟨_, rfl, a, _, _, y, rfl, rfl, sqt (s2 _ _ h1'), rfl, y, db, rfl, hy.more s2, fun H3 s3 => ⟨_, rfl, ?_⟩⟩
        have s13 : Same H H3 := fun b o e => s3 b o (s2 b o e)
        cases i2 : intB db with
        | false =>
          have := q H3 s13
          rwa [show ptB (.tuple [da, db]) = false from (by show (cooB da && cooB db) = false; rw [coo_int i2]; cases cooB da <;> rfl)] at this
        | true =>
          obtain ⟨i, rfl⟩ := int_of i1
          obtain ⟨j, rfl⟩ := int_of i2
          rw [dv_int hx, dv_int hy] at h1'
          have h3 := s13 _ _ h1'
          refine ⟨_, rfl, a, _, _, .int i, rfl, rfl, sqt h3, rfl, _, rfl, a, _, _, .int j, rfl, rfl, sqt h3, rfl, (by show 2 ≤ sizeLine; decide), fun p hp => ?_⟩
          refine ⟨p, [i, j], rfl, SqL.of upd_same, (by show 0 < 2; decide), fun m hm hle => ⟨_, _, rfl, rfl, _, rfl, ?_⟩⟩
          have m1 := hle i List.mem_cons_self
          have m2 := hle j (List.mem_cons_of_mem _ List.mem_cons_self)
          have m3 : m = i ∨ m = j := by
            rcases List.mem_cons.mp hm with h | h
            · exact .inl h
            · exact .inr (List.mem_singleton.mp h)
          refine ite2 (fun e5 => ?_) (fun e5 => ?_)
          · have e6 : 0 ≤ m := of_decide_eq_true e5
            refine ⟨_, rfl, a, _, _, .int i, rfl, rfl, sqt (stay h3 hp), rfl, _, rfl, a, _, _, .int j, rfl, rfl, sqt (stay h3 hp), rfl, (by show 2 ≤ sizeLine; decide), fun p2 hp2 => ?_⟩
            refine ⟨p2, [i, j], rfl, SqL.of upd_same, (by show 0 < 2; decide), fun m' hm' hle' => ⟨_, _, rfl, rfl, ?_⟩⟩
            have n1 := hle' i List.mem_cons_self
            have n2 := hle' j (List.mem_cons_of_mem _ List.mem_cons_self)
            have n3 : m' = i ∨ m' = j := by
              rcases List.mem_cons.mp hm' with h | h
              · exact .inl h
              · exact .inr (List.mem_singleton.mp h)
            have e7 : ptB (.tuple [.int i, .int j]) = decide (m' ≤ 30) := by
              show ((decide (0 ≤ i) && decide (i ≤ 30)) && (decide (0 ≤ j) && decide (j ≤ 30))) = _
              rw [decide_eq_true (by omega : 0 ≤ i), decide_eq_true (by omega : 0 ≤ j), Bool.true_and, Bool.true_and, Bool.eq_iff_iff, Bool.and_eq_true_iff, decide_eq_true_eq, decide_eq_true_eq, decide_eq_true_eq]
              omega
            show Q (.bl (decide (m' ≤ 30))) _
            rw [← e7]
            exact q _ fun b o e => stay (stay (s13 b o e) hp) hp2
          · have e6 : ¬ 0 ≤ m := fun h => e5 (decide_eq_true h)
            have e7 : ptB (.tuple [.int i, .int j]) = false := by
              show ((decide (0 ≤ i) && decide (i ≤ 30)) && (decide (0 ≤ j) && decide (j ≤ 30))) = _
              rcases m3 with rfl | rfl
              · rw [decide_eq_false e6]
                rfl
              · rw [decide_eq_false e6]
                cases decide (0 ≤ i) <;> cases decide (i ≤ 30) <;> rfl
            rw [← e7]
            exact q _ fun b o e => stay (s13 b o e) hp
theorem scN : FnScope ["_law_one", "_law_other"] ["_law_one", "_law_other"] (defScope (top 30)) := ⟨rfl, rfl, rfl, by decide +kernel, rfl, by decide +kernel, by decide +kernel⟩
theorem ok_near {f : Addr} {fd : FuncData} (F : Fun K "_law_near" "_law_near" (top 30) f fd) : FnOk P w K mg base CX0 1 f fd ["_law_one", "_law_other"] spNear := by
  refine F.ok scN (fun vs H Q E h => ?_) (fun cdv A outer s H vs Q E hr h => ?_)
  · obtain ⟨v, u, i, j, k, l, rfl, _⟩ := h
    rfl
  · obtain ⟨v, u, i, j, k, l, rfl, dv, du, b1, b2, q⟩ := h
    obtain ⟨a, rfl, ha⟩ := dv_pt dv
    obtain ⟨b, rfl, hb⟩ := dv_pt du
    refine ⟨_, pss_one (ps_ret (pe_cmpR op_eq (pe_op op_add (pe_op op_pow (pe_op op_sub (pe_ix ix_tup (pv 0) pe_int (fun _ _ => rfl)) (pe_ix ix_tup (pv 1) pe_int (fun _ _ => rfl))) pe_int)
      (pe_op op_pow (pe_op op_sub (pe_ix ix_tup (pv 0) pe_int (fun _ _ => rfl)) (pe_ix ix_tup (pv 1) pe_int (fun _ _ => rfl))) pe_int)) pe_int (nomark _))), ?_⟩
    refine ⟨_, rfl, a, _, _, .int i, rfl, rfl, sqt ha, rfl, _, rfl, b, _, _, .int k, rfl, rfl, sqt hb, rfl, _, _, rfl, rfl, _, _, rfl, rfl, ⟨by decide, by decide, by omega⟩, ?_⟩
    refine ⟨_, rfl, a, _, _, .int j, rfl, rfl, sqt ha, rfl, _, rfl, b, _, _, .int l, rfl, rfl, sqt hb, rfl, _, _, rfl, rfl, _, _, rfl, rfl, ⟨by decide, by decide, by omega⟩, _, _, rfl, rfl, rfl, ?_⟩
    have e : decide (V.int ((i - k) ^ (2 : Int).toNat + (j - l) ^ (2 : Int).toNat) = V.int 1) = decide ((i - k) ^ 2 + (j - l) ^ 2 = 1) := by
      rw [dec_int]
      rfl
    rw [e]
    exact q
theorem scLE : FnScope ["_law_value"] ["_law_value"] (defScope (top 31)) := ⟨rfl, rfl, rfl, by decide +kernel, rfl, by decide +kernel, by decide +kernel⟩
theorem ok_ledge {f fP fN : Addr} {fd fdP fdN : FuncData} (F : Fun K "_law_edge" "_law_edge" (top 31) f fd) (T : Ta mg) (GP : FnOk P w K mg base CX0 2 fP fdP ["_law_value"] (spB ptB)) (AP : At K mg "_law_point" fP fdP ["_law_value"])
    (GN : FnOk P w K mg base CX0 1 fN fdN ["_law_one", "_law_other"] spNear) (AN : At K mg "_law_near" fN fdN ["_law_one", "_law_other"]) : FnOk P w K mg base CX0 3 f fd ["_law_value"] (spB ledgeB) := by
  refine F.ok scLE spB_len (fun cdv A outer s H vs Q E hr h => ?_)
  obtain ⟨v, d, rfl, dv, q⟩ := h
  refine ⟨_, pss_cons (ps_if (PW.pt (pw_or (pt_not (pt_val (pe_callB call_isi (by rfl) T.isi (by decide +kernel) (pa_cons (pv 0) (pa_cons (pe_bltn (v := .ty "tuple") (u := .type "tuple") (by rfl) T.tup (by decide +kernel) rfl) pa_nil)))))
      (pw_or (pt_cmpR op_ne (pe_callB call_len_seq (by rfl) T.len PySem.boot_len (pa_cons (pv 0) pa_nil)) pe_int (nomark _))
      (pw_or (pt_not (pt_val (pe_call GP hr rfl AP.g AP.k AP.b .nil pass0 (pa_cons (pe_ix ix_tup (pv 0) pe_int (fun _ _ => rfl)) pa_nil))))
      (pw_or1 (pt_not (pt_val (pe_call GP hr rfl AP.g AP.k AP.b .nil pass0 (pa_cons (pe_ix ix_tup (pv 0) pe_int (fun _ _ => rfl)) pa_nil))))))))) (pss_one (ps_ret pe_bl)) pss_nil)
    (pss_one (ps_ret (pe_and (pe_call GN (hr.mono (by decide)) rfl AN.g AN.k AN.b .nil pass0 (pa_cons (pe_ix ix_tup (pv 0) pe_int (fun _ _ => rfl)) (pa_cons (pe_ix ix_tup (pv 0) pe_int (fun _ _ => rfl)) pa_nil)))
      (pe_one (pe_cmpR op_lt (pe_op op_add (pe_ix ix_tup (pe_ix ix_tup (pv 0) pe_int (fun _ _ => rfl)) pe_int (fun _ _ => rfl)) (pe_ix ix_tup (pe_ix ix_tup (pv 0) pe_int (fun _ _ => rfl)) pe_int (fun _ _ => rfl)))
        (pe_op op_add (pe_ix ix_tup (pe_ix ix_tup (pv 0) pe_int (fun _ _ => rfl)) pe_int (fun _ _ => rfl)) (pe_ix ix_tup (pe_ix ix_tup (pv 0) pe_int (fun _ _ => rfl)) pe_int (fun _ _ => rfl))) (nomark _)))))), ?_⟩
  refine ⟨_, rfl, _, .ty "tuple", .type (tyN d), .type "tuple", _, rfl, .ty _, ty_of dv, kit_ty (kit_tuple d), _, rfl, ?_⟩
  cases e : tupish d with
  | false =>
    have := q H (same0 H)
    have e2 : ledgeB d = false := by
      cases d with
      | tuple ds => cases e
      | _ => rfl
    rwa [e2] at this
  | true =>
    obtain ⟨ds, rfl⟩ := tupish_of e
    obtain ⟨a, xs, rfl, h1, r⟩ := dv_tup dv
    refine ⟨_, rfl, a, xs, rfl, .inr (sqt h1), rfl, _, rfl, ?_⟩
    cases e1 : (!decide (V.int (xs.length : Int) = V.int 2)) with
    | true =>
      have := q H (same0 H)
      have e2 : ledgeB (.tuple ds) = false := by
        rw [r.length] at e1
        rcases ds with _ | ⟨a, _ | ⟨b, _ | ⟨c, r0⟩⟩⟩
        · rfl
        · rfl
        · cases e1
        · rfl
      rwa [e2] at this
    | false =>
      have e2 : pairB (.tuple ds) = true := by
        rw [r.length] at e1
        rcases ds with _ | ⟨a, _ | ⟨b, _ | ⟨c, r0⟩⟩⟩
        · cases e1
        · cases e1
        · rfl
        · have := of_decide_eq_true (by simpa using e1 : decide (V.int (((a :: b :: c :: r0).length : Nat) : Int) = V.int 2) = true)
          have := V.int.inj this
          simp only [List.length_cons] at this
          omega
      obtain ⟨da, db, e3⟩ := pair_of e2
      cases e3
      obtain ⟨a', x, y, ea, h1', hx, hy⟩ := dv_pair dv
      cases ea
      refine ⟨_, rfl, a, _, _, x, rfl, rfl, sqt h1', rfl, x, da, rfl, hx, fun H2 s2 => ⟨_, rfl, ?_⟩⟩
      cases i1 : ptB da with
      | false =>
        have := q H2 s2
        rwa [show ledgeB (.tuple [da, db]) = false from and_f (by rw [i1]; exact Bool.false_ne_true)] at this
      | true =>
        refine ⟨_, rfl, a, _, _, y, rfl, rfl, sqt (s2 _ _ h1'), rfl, y, db, rfl, hy.more s2, fun H3 s3 => ⟨_, rfl, ?_⟩⟩
        have s13 : Same H H3 := fun b o e => s3 b o (s2 b o e)
        cases i2 : ptB db with
        | false =>
          have := q H3 s13
          rwa [show ledgeB (.tuple [da, db]) = false from (by show (ptB da && (ptB db && _)) = false; rw [i1, i2]; rfl)] at this
        | true =>
          have e4 : ledgeB (.tuple [da, db]) = (nearB da db && decide (xOf da + yOf da < xOf db + yOf db)) := by
            show (ptB da && (ptB db && _)) = _
            rw [i1, i2]
            rfl
          rw [e4] at q
          obtain ⟨i, j, rfl, b1⟩ := pt_of i1
          obtain ⟨k, l, rfl, b2⟩ := pt_of i2
          have h3 := s13 _ _ h1'
          have hx3 := hx.more s13
          have hy3 := hy.more s13
          refine ⟨_, rfl, a, _, _, x, rfl, rfl, sqt h3, rfl, _, rfl, a, _, _, y, rfl, rfl, sqt h3, rfl, x, y, i, j, k, l, rfl, hx3, hy3, b1, b2, _, rfl, ite2 (fun e5 => ?_) (fun e5 => ?_)⟩
          · obtain ⟨ax, rfl, hax⟩ := dv_pt hx3
            obtain ⟨ay, rfl, hay⟩ := dv_pt hy3
            refine ⟨_, rfl, a, _, _, _, rfl, rfl, sqt h3, rfl, ax, _, _, .int i, rfl, rfl, sqt hax, rfl, _, rfl, a, _, _, _, rfl, rfl, sqt h3, rfl, ax, _, _, .int j, rfl, rfl, sqt hax, rfl, _, _, rfl, rfl, ?_⟩
            refine ⟨_, rfl, a, _, _, _, rfl, rfl, sqt h3, rfl, ay, _, _, .int k, rfl, rfl, sqt hay, rfl, _, rfl, a, _, _, _, rfl, rfl, sqt h3, rfl, ay, _, _, .int l, rfl, rfl, sqt hay, rfl, _, _, rfl, rfl, _, _, rfl, rfl, ?_⟩
            have := q H3 s13
            rwa [show (nearB (.tuple [.int i, .int j]) (.tuple [.int k, .int l]) && _) = _ from and_t e5] at this
          · have := q H3 s13
            rwa [show (nearB (.tuple [.int i, .int j]) (.tuple [.int k, .int l]) && _) = _ from and_f e5] at this
end
end K1
set_option Elab.async false
set_option linter.all false
set_option maxRecDepth 100000
set_option maxHeartbeats 16000000
namespace K1
open PySem PySem.Spec PyProof.Rows L2 Nv
abbrev sIni : Stmt := inClass (top 1) 0
/-! ### what the deeds answer, of data -/
inductive Rs where
  | ret (d : PyData)
  | exc (c : Nat) (d : PyData)
def sx : PyData → Int
  | .str s => if s = "r" then 1 else if s = "l" then -1 else 0
  | _ => 0
def sy : PyData → Int
  | .str s => if s = "u" then 1 else if s = "d" then -1 else 0
  | _ => 0
def goTo (p d : PyData) : PyData := .tuple [.int (xOf p + sx d), .int (yOf p + sy d)]
def besideV (p d : PyData) : PyData := if ptB (goTo p d) = true then goTo p d else .none
def chkP (d : PyData) : Rs := if ptB d = true then .ret .none else .exc 1 d
def chkD (d : PyData) : Rs := if dirB d = true then .ret .none else .exc 0 d
def besideR (p d : PyData) : Rs := if ptB p = true then (if dirB d = true then .ret (besideV p d) else .exc 0 d) else .exc 1 p
def firstDir (p q : PyData) : List Str → Rs
  | [] => .exc 2 (.tuple [p, q])
  | s :: r => if PyData.eqv (besideV p (.str s)) q = true then .ret (.str s) else firstDir p q r
def letters : List Str := ["r", "u", "l", "d"]
def dbR (p q : PyData) : Rs := if ptB p = true then (if ptB q = true then firstDir p q letters else .exc 1 q) else .exc 1 p
def ebR (p q : PyData) : Rs := match dbR p q with
  | .ret d => if ([PyData.str "r", .str "u"].any fun z => PyData.eqv z d) = true then .ret (.tuple [p, q]) else .ret (.tuple [q, p])
  | .exc c d => .exc c d
def oppV : PyData → PyData
  | .str s => .str (if s = "r" then "l" else if s = "u" then "d" else if s = "l" then "r" else "u")
  | _ => .none
def oppR (d : PyData) : Rs := if dirB d = true then .ret (oppV d) else .exc 0 d

def Out (cl : Nat → Addr) (r : Rs) (H : Hp) (Q : VK) (E : XK) : Prop := match r with
  | .ret d => ∀ v H', Same H H' → DV H' v d → Q v H'
  | .exc c d => ∀ v dx H', Same H H' → XD H' dx v → DV H' v d → E (.ref (cl c)) (some dx) H'
def spR1 (cl : Nat → Addr) (r : PyData → Rs) : Sp := fun vs H Q E => ∃ v d, vs = [v] ∧ DV H v d ∧ Out cl (r d) H Q E
def spR2 (cl : Nat → Addr) (r : PyData → PyData → Rs) : Sp := fun vs H Q E => ∃ v u d e, vs = [v, u] ∧ DV H v d ∧ DV H u e ∧ Out cl (r d e) H Q E
def nms : Nat → Str
  | 0 => "InvalidDirection"
  | 1 => "InvalidPoint"
  | 2 => "InvalidEdge"
  | _ => "NevercrossedError"
structure Tx (K : PySem.W.Frag) (mg : Str → Option Value) (cl : Nat → Addr) (fI : Addr) : Prop where
  xc : ∀ i, i < 3 → Xc K (cl i) fI
  gl : ∀ i, i < 4 → mg (nms i) = some (.ref (cl i))
  exm : ∀ i j, i < 3 → j < 3 → PySem.W.exmOne K (.ref (cl i)) (.ref (cl j)) = some (decide (i = j))

theorem for_str {x : Str} {g : TG} {tb : TS} {D : Ends} {σ : L2.St} {H : Hp} (Pv : Nat → L2.St → Hp → Prop) (h0 : Pv 0 σ H)
    (hs : ∀ i c σ H, x.cps[i]? = some c → Pv i σ H → g (.str ⟨#[c]⟩) σ H fun σ2 H2 => tb { D with nx := Pv (i + 1), ct := Pv (i + 1), bk := D.nx } σ2 H2) (hd : ∀ σ H, Pv x.cps.size σ H → D.nx σ H) :
    ∃ W : Nat → Nat → L2.St → Hp → Prop, (∃ m, W 0 m σ H) ∧ ∀ i m σ H, W i m σ H →
      ((Its x).stop i H ∧ D.nx σ H) ∨ ((Its x).go i H ∧ ∃ N : L2.St → Hp → Prop, (∀ σ' H', N σ' H' → ∃ m', m' < m ∧ W (i + 1) m' σ' H') ∧ ∀ y H', (Its x).yld i H y H' → g y σ H' fun σ2 H2 => tb { D with nx := N, ct := N, bk := D.nx } σ2 H2) := by
  refine ⟨fun i m σ H => m = x.cps.size - i ∧ i ≤ x.cps.size ∧ Pv i σ H, ⟨x.cps.size, by simp, Nat.zero_le _, h0⟩, ?_⟩
  rintro i m σ H ⟨rfl, hi, p⟩
  by_cases hlt : i < x.cps.size
  · refine .inr ⟨hlt, Pv (i + 1), fun σ' H' h => ⟨_, by omega, rfl, by omega, h⟩, ?_⟩
    rintro y H' ⟨rfl, c, hc, rfl⟩
    exact hs i c σ _ hc p
  · have e : i = x.cps.size := by omega
    subst e
    exact .inl ⟨Nat.le_refl _, hd σ H p⟩

section
variable {P : Program} {w : World} {K : PySem.W.Frag} {mg : Str → Option Value} {base : Heap} {cl : Nat → Addr} {fI : Addr} {fdI : FuncData}
theorem okN {x qual : Str} {st : Stmt} {f : Addr} {fd : FuncData} {N ps : List Str} {k : Nat} {sp : Sp} (F : Fun K x qual st f fd) (S : FnScope N ps (defScope st)) (len : ∀ vs H Q E, sp vs H Q E → vs.length = ps.length)
    (hbody : ∀ (cdv : Value) (A : Around) (outer : List Env) (s : Shared) (H : Hp) (vs : List V) (Q : VK) (E : XK), Room k (A.deeper (envOfC qual (defScope st) s.heap.objs.size f cdv)) → sp vs H Q E →
      L2N.Takes (cxOf (L2N.CX P w) P w K mg base N qual (defScope st) f cdv A outer s H E) (fun cls d _ H => E cls d H) →
      ∃ t, PSs (cxOf (L2N.CX P w) P w K mg base N qual (defScope st) f cdv A outer s H E) (defBody st) t ∧ t { nx := fun _ H' => Q .non H', rt := Q } (start N vs) H) : FnOk P w K mg base (L2N.CX P w) (k + 1) f fd ps sp := by
  obtain ⟨oc, od, kV, doc, pm, an, cdv, ct, osl, rfl, lk, hcd⟩ := F.ex
  exact fn_of lk hcd S len fun A outer s H vs Q E hr hsp => hbody cdv A outer s H vs Q E hr hsp (L2N.takes_of rfl rfl rfl rfl)
theorem scIn : FnScope ["self", "value"] ["self", "value"] (defScope sIni) := ⟨rfl, rfl, rfl, by decide +kernel, rfl, by decide +kernel, by decide +kernel⟩
theorem ok_ini {f : Addr} {fd : FuncData} (F : Fun K "__init__" "NevercrossedError.__init__" sIni f fd) : FnOk P w K mg base CX0 1 f fd ["self", "value"] (spIni K) := by
  refine F.ok scIn (fun vs H Q E h => ?_) (fun cdv A outer s H vs Q E hr h => ?_)
  · obtain ⟨a, C, v, rfl, _⟩ := h
    rfl
  · obtain ⟨a, C, v, rfl, T, nv, nf, nc, ha, q⟩ := h
    refine ⟨_, pss_cons (ps_ost (pv 0) (pv 1)) (pss_one (ps_ost (pv 0) (pe_cname (pe_xcls (pv 0))))), _, rfl, _, rfl, a, C, rfl, T, nv, .inl ⟨ha, fun dx nd ne => ?_⟩⟩
    refine ⟨_, rfl, a, C, dx, _, rfl, nc, upd_same, (by rw [upd_ne ne]; exact upd_same), C, rfl, nc, fun n => ⟨_, rfl, a, C, rfl, T, nf, .inr ⟨dx, _, upd_same, (by rw [upd_ne ne]; exact upd_same), (by show 1 ≤ 900; decide), ?_⟩⟩⟩
    have z := q dx n nd ne
    rw [← ini_heap ne] at z
    exact z
theorem spR1_len {r : PyData → Rs} {n : Str} : ∀ (vs : List V) (H : Hp) (Q : VK) (E : XK), spR1 cl r vs H Q E → vs.length = [n].length := fun vs H Q E h => by
  obtain ⟨v, d, rfl, _⟩ := h
  rfl
theorem spR2_len {r : PyData → PyData → Rs} {n m : Str} : ∀ (vs : List V) (H : Hp) (Q : VK) (E : XK), spR2 cl r vs H Q E → vs.length = [n, m].length := fun vs H Q E h => by
  obtain ⟨v, u, d, e, rfl, _⟩ := h
  rfl
theorem scCP : FnScope ["value"] ["value"] (defScope (top 22)) := ⟨rfl, rfl, rfl, by decide +kernel, rfl, by decide +kernel, by decide +kernel⟩
theorem ok_chkP {f fP : Addr} {fd fdP : FuncData} (F : Fun K "_check_point" "_check_point" (top 22) f fd) (T : Tx K mg cl fI) (GI : FnOk P w K mg base CX0 1 fI fdI ["self", "value"] (spIni K)) (bI : Binds K fdI ["self", "value"] [])
    (GP : FnOk P w K mg base CX0 3 fP fdP ["value"] (spB ptB)) (AP : At K mg "is_point" fP fdP ["value"]) : FnOk P w K mg base (L2N.CX P w) 4 f fd ["value"] (spR1 cl chkP) := by
  refine okN F scCP spR1_len (fun cdv A outer s H vs Q E hr h tk => ?_)
  obtain ⟨v, d, rfl, dv, q⟩ := h
  refine ⟨_, pss_one (ps_if (pt_not (pt_val (pe_call GP hr rfl AP.g AP.k AP.b .nil pass0 (pa_cons (pv 0) pa_nil))))
    (pss_one (L2N.ps_raise rfl tk (pmk_mkx (T.xc 1 (by decide)).mx GI (hr.mono (by decide)) bI rfl (T.gl 1 (by decide)) (pv 0)))) pss_nil), ?_⟩
  refine ⟨_, rfl, v, d, rfl, dv, fun H1 s1 => ⟨_, rfl, ?_⟩⟩
  unfold chkP at q
  cases e : ptB d with
  | true =>
    rw [if_pos e] at q
    exact q .non H1 s1 .non
  | false =>
    rw [if_neg (by rw [e]; exact Bool.false_ne_true)] at q
    exact ⟨_, rfl, fun dx n nd => q v dx _ (fun b o e => stay (s1 b o e) nd) XD.of ((dv.more s1).more fun b o e => stay e nd)⟩
theorem scCD : FnScope ["value"] ["value"] (defScope (top 23)) := ⟨rfl, rfl, rfl, by decide +kernel, rfl, by decide +kernel, by decide +kernel⟩
theorem ok_chkD {f fP : Addr} {fd fdP : FuncData} (F : Fun K "_check_direction" "_check_direction" (top 23) f fd) (T : Tx K mg cl fI) (GI : FnOk P w K mg base CX0 1 fI fdI ["self", "value"] (spIni K)) (bI : Binds K fdI ["self", "value"] [])
    (GP : FnOk P w K mg base CX0 1 fP fdP ["value"] (spB dirB)) (AP : At K mg "is_direction" fP fdP ["value"]) : FnOk P w K mg base (L2N.CX P w) 4 f fd ["value"] (spR1 cl chkD) := by
  refine okN F scCD spR1_len (fun cdv A outer s H vs Q E hr h tk => ?_)
  obtain ⟨v, d, rfl, dv, q⟩ := h
  refine ⟨_, pss_one (ps_if (pt_not (pt_val (pe_call GP (hr.mono (by decide)) rfl AP.g AP.k AP.b .nil pass0 (pa_cons (pv 0) pa_nil))))
    (pss_one (L2N.ps_raise rfl tk (pmk_mkx (T.xc 0 (by decide)).mx GI (hr.mono (by decide)) bI rfl (T.gl 0 (by decide)) (pv 0)))) pss_nil), ?_⟩
  refine ⟨_, rfl, v, d, rfl, dv, fun H1 s1 => ⟨_, rfl, ?_⟩⟩
  unfold chkD at q
  cases e : dirB d with
  | true =>
    rw [if_pos e] at q
    exact q .non H1 s1 .non
  | false =>
    rw [if_neg (by rw [e]; exact Bool.false_ne_true)] at q
    exact ⟨_, rfl, fun dx n nd => q v dx _ (fun b o e => stay (s1 b o e) nd) XD.of ((dv.more s1).more fun b o e => stay e nd)⟩
theorem same_tr {a b c : Hp} (h : Same a b) (k : Same b c) : Same a c := fun x o e => k x o (h x o e)
/-- a written pair of ints -/
def pairK (K : PySem.W.Frag) (u : Option (Option Value)) (x y : Int) : Bool := match u with
  | some (some (.ref a)) => (match K.lookup a with
    | some ⟨.type c, _, .seq its _, _⟩ => (match its.toList with
      | [.int i _, .int j _] => decide (c = "tuple") && (decide (i = x) && decide (j = y))
      | _ => false)
    | _ => false)
  | _ => false
theorem pairK_of {u : Option (Option Value)} {x y : Int} (h : pairK K u x y = true) : ∃ t, u = some (some (.ref t)) ∧ ∀ H, SqT K H t [.int x, .int y] := by
  unfold pairK at h
  split at h
  · rename_i a
    split at h
    · rename_i c dd its n sl e
      split at h
      · rename_i i t1 j t2 e2
        simp only [Bool.and_eq_true, decide_eq_true_eq] at h
        obtain ⟨rfl, rfl, rfl⟩ := h
        refine ⟨a, rfl, fun H => .inr ⟨_, its, n, e, rfl, rfl, ?_, ?_⟩⟩
        · rw [← Array.length_toList, e2]
          show 2 ≤ sizeLine
          decide
        · rw [e2]
          exact .cons ⟨_, rfl⟩ (.cons ⟨_, rfl⟩ .nil)
      · cases h
    · cases h
  · cases h
def strK (u : Option (Option Value)) (x : Str) : Bool := match u with
  | some (some (.str y _)) => decide (y = x)
  | _ => false
theorem strK_of {u : Option (Option Value)} {x : Str} (h : strK u x = true) : ∃ t, u = some (some (.str x t)) := by
  unfold strK at h
  split at h
  · exact ⟨_, by rw [of_decide_eq_true h]⟩
  · cases h
structure Steps2 (K : PySem.W.Frag) (a : Addr) : Prop where
  r : pairK K (PySem.W.nsIn K a "r") 1 0 = true
  u : pairK K (PySem.W.nsIn K a "u") 0 1 = true
  l : pairK K (PySem.W.nsIn K a "l") (-1) 0 = true
  d : pairK K (PySem.W.nsIn K a "d") 0 (-1) = true
structure Opps (K : PySem.W.Frag) (w : World) (mg : Str → Option Value) (a : Addr) : Prop where
  g : mg "OPPOSITES" = some (.ref a)
  d0 : He.dicW K a = some (He.keysIn w.params ["r", "u", "l", "d"])
  r : strK (PySem.W.nsIn K a "r") "l" = true
  u : strK (PySem.W.nsIn K a "u") "d" = true
  l : strK (PySem.W.nsIn K a "l") "r" = true
  d : strK (PySem.W.nsIn K a "d") "u" = true
theorem step_of {a : Addr} (S : Steps2 K a) {s : Str} (h : dirOf s = true) : ∃ t, PySem.W.nsIn K a s = some (some (.ref t)) ∧ ∀ H, SqT K H t [.int (sx (.str s)), .int (sy (.str s))] := by
  rcases dir_cases h with rfl | rfl | rfl | rfl
  · exact pairK_of S.r
  · exact pairK_of S.u
  · exact pairK_of S.l
  · exact pairK_of S.d
theorem opp_of {a : Addr} (S : Opps K w mg a) {s : Str} (h : dirOf s = true) : ∃ x t, PySem.W.nsIn K a s = some (some (.str x t)) ∧ oppV (.str s) = .str x := by
  rcases dir_cases h with rfl | rfl | rfl | rfl
  · obtain ⟨t, e⟩ := strK_of S.r
    exact ⟨_, t, e, rfl⟩
  · obtain ⟨t, e⟩ := strK_of S.u
    exact ⟨_, t, e, rfl⟩
  · obtain ⟨t, e⟩ := strK_of S.l
    exact ⟨_, t, e, rfl⟩
  · obtain ⟨t, e⟩ := strK_of S.d
    exact ⟨_, t, e, rfl⟩
theorem str_of {d : PyData} (h : dirB d = true) : ∃ s, d = .str s ∧ dirOf s = true := by
  cases d with
  | str s => exact ⟨s, rfl, h⟩
  | _ => cases h
theorem scB : FnScope ["point", "direction", "step_x", "step_y", "reached"] ["point", "direction"] (defScope (top 16)) := ⟨rfl, rfl, rfl, by decide +kernel, rfl, by decide +kernel, by decide +kernel⟩
theorem ok_beside {f fP fD fT aS : Addr} {fd fdP fdD fdT : FuncData} (F : Fun K "beside" "beside" (top 16) f fd) (S : Steps K w mg aS) (S2 : Steps2 K aS)
    (GP : FnOk P w K mg base (L2N.CX P w) 4 fP fdP ["value"] (spR1 cl chkP)) (AP : At K mg "_check_point" fP fdP ["value"])
    (GD : FnOk P w K mg base (L2N.CX P w) 4 fD fdD ["value"] (spR1 cl chkD)) (AD : At K mg "_check_direction" fD fdD ["value"])
    (GT : FnOk P w K mg base CX0 3 fT fdT ["value"] (spB ptB)) (AT : At K mg "is_point" fT fdT ["value"]) : FnOk P w K mg base (L2N.CX P w) 5 f fd ["point", "direction"] (spR2 cl besideR) := by
  refine okN F scB spR2_len (fun cdv A outer s H vs Q E hr h tk => ?_)
  obtain ⟨v, u, d, e, rfl, dv, du, q⟩ := h
  obtain ⟨es, n, D⟩ := He.dicW_ok S.d
  refine ⟨_, pss_cons (ps_expr (pe_callS GP hr rfl AP.g AP.k AP.b (L2N.passAt tk) (pa_cons (pv 0) pa_nil)))
    (pss_cons (ps_expr (pe_callS GD hr rfl AD.g AD.k AD.b (L2N.passAt tk) (pa_cons (pv 1) pa_nil)))
    (pss_cons (ps_asg (pe_ix ix_kdict (pe_glob (v := .ref aS) rfl S.g rfl) (pv 1) (fun _ _ => rfl)) (pg_tup rfl (pgs_cons (pg_name (i := 2) scB.nd rfl (Or.inl rfl)) (pgs_cons (pg_name (i := 3) scB.nd rfl (Or.inl rfl)) pgs_nil))))
    (pss_cons (ps_set (i := 4) scB.nd rfl (Or.inl rfl) (pe_tup (pa_cons (pe_op op_add (pe_ix ix_tup (pv 0) pe_int (fun _ _ => rfl)) (pv 2)) (pa_cons (pe_op op_add (pe_ix ix_tup (pv 0) pe_int (fun _ _ => rfl)) (pv 3)) pa_nil))))
    (pss_one (ps_ret (pe_ifExp (pt_val (pe_call GT (hr.mono (by decide)) rfl AT.g AT.k AT.b .nil pass0 (pa_cons (pv 4) pa_nil))) (pv 4) pe_non)))))), ?_⟩
  unfold besideR at q
  refine ⟨_, rfl, v, d, rfl, dv, ?_⟩
  unfold chkP
  cases e1 : ptB d with
  | false =>
    rw [e1, if_neg Bool.false_ne_true] at q
    exact q
  | true =>
    rw [e1, if_pos rfl] at q
    rintro v1 H1 s1 -
    refine ⟨_, rfl, u, e, rfl, du.more s1, ?_⟩
    unfold chkD
    cases e2 : dirB e with
    | false =>
      rw [e2, if_neg Bool.false_ne_true] at q
      exact fun v dx H' s2 hd hv => q v dx H' (same_tr s1 s2) hd hv
    | true =>
      rw [e2, if_pos rfl] at q
      rintro v2 H2 s2 -
      obtain ⟨z, rfl, hz⟩ := str_of e2
      obtain ⟨i, j, rfl, i0, i1, j0, j1⟩ := pt_of e1
      obtain ⟨t, ht, hsq⟩ := step_of S2 hz
      obtain ⟨a, rfl, ha⟩ := dv_pt (dv.more (same_tr s1 s2))
      rw [dv_str du]
      refine ⟨_, rfl, aS, z, .ref t, rfl, rfl, ⟨es, n, _, D.at_, D.lit, ht, rfl⟩, t, _, rfl, hsq _, rfl, _, _, rfl, _, _, rfl, rfl, ?_⟩
      refine ⟨_, rfl, a, _, _, .int i, rfl, rfl, sqt ha, rfl, _, rfl, _, _, rfl, rfl, _, rfl, a, _, _, .int j, rfl, rfl, sqt ha, rfl, _, rfl, _, _, rfl, rfl, (by show 2 ≤ sizeLine; decide), fun p hp => ?_⟩
      have dg : DV (upd H2 p (.tup [.int (i + sx (.str z)), .int (j + sy (.str z))])) (.ref p) (goTo (.tuple [.int i, .int j]) (.str z)) := .tup upd_same (.cons (.int _) (.cons (.int _) .nil))
      refine ⟨_, rfl, .ref p, _, rfl, dg, fun H3 s3 => ⟨_, rfl, ?_⟩⟩
      have s13 : Same H H3 := fun b o e => s3 b o (stay (s2 b o (s1 b o e)) hp)
      cases e3 : ptB (goTo (.tuple [.int i, .int j]) (.str z)) with
      | true =>
        refine ⟨_, rfl, q _ _ s13 ?_⟩
        unfold besideV
        rw [if_pos e3]
        exact dg.more s3
      | false =>
        refine q _ _ s13 ?_
        unfold besideV
        rw [if_neg (by rw [e3]; exact Bool.false_ne_true)]
        exact .non
theorem scO : FnScope ["direction"] ["direction"] (defScope (top 20)) := ⟨rfl, rfl, rfl, by decide +kernel, rfl, by decide +kernel, by decide +kernel⟩
theorem ok_opp {f fD aO : Addr} {fd fdD : FuncData} (F : Fun K "opposite" "opposite" (top 20) f fd) (S : Opps K w mg aO)
    (GD : FnOk P w K mg base (L2N.CX P w) 4 fD fdD ["value"] (spR1 cl chkD)) (AD : At K mg "_check_direction" fD fdD ["value"]) : FnOk P w K mg base (L2N.CX P w) 5 f fd ["direction"] (spR1 cl oppR) := by
  refine okN F scO spR1_len (fun cdv A outer s H vs Q E hr h tk => ?_)
  obtain ⟨v, d, rfl, dv, q⟩ := h
  obtain ⟨es, n, D⟩ := He.dicW_ok S.d0
  refine ⟨_, pss_cons (ps_expr (pe_callS GD hr rfl AD.g AD.k AD.b (L2N.passAt tk) (pa_cons (pv 0) pa_nil)))
    (pss_one (ps_ret (pe_ix ix_kdict (pe_glob (v := .ref aO) rfl S.g rfl) (pv 0) (fun _ _ => rfl)))), ?_⟩
  unfold oppR at q
  refine ⟨_, rfl, v, d, rfl, dv, ?_⟩
  unfold chkD
  cases e1 : dirB d with
  | false =>
    rw [e1, if_neg Bool.false_ne_true] at q
    exact q
  | true =>
    rw [e1, if_pos rfl] at q
    rintro v1 H1 s1 -
    obtain ⟨z, rfl, hz⟩ := str_of e1
    obtain ⟨x, t, ht, ho⟩ := opp_of S hz
    rw [dv_str dv]
    refine ⟨_, rfl, aO, z, .str x, rfl, rfl, ⟨es, n, _, D.at_, D.lit, ht, ⟨_, rfl⟩⟩, q _ _ s1 ?_⟩
    rw [ho]
    exact .str x
end
end K1
set_option Elab.async false
set_option linter.all false
set_option maxRecDepth 100000
set_option maxHeartbeats 16000000
namespace K1
open PySem PySem.Spec PyProof.Rows L2 Nv
theorem flat_pt {d : PyData} (h : ptB d = true) : d.hasDict = false ∧ SeqAt.shaped d = true := by
  obtain ⟨i, j, rfl, -⟩ := pt_of h
  exact ⟨rfl, shaped_ii i j⟩
theorem flat_bes (p d : PyData) : (besideV p d).hasDict = false ∧ SeqAt.shaped (besideV p d) = true := by
  unfold besideV
  by_cases h : ptB (goTo p d) = true
  · rw [if_pos h]
    exact flat_pt h
  · rw [if_neg h]
    exact ⟨rfl, rfl⟩
theorem ruld_at {i : Nat} {c : Nat} (h : (("ruld" : Str)).cps[i]? = some c) : letters[i]? = some ⟨#[c]⟩ := by
  have hl : i < (("ruld" : Str)).cps.size := (Array.getElem?_eq_some_iff.mp h).1
  have hl4 : i < 4 := hl
  have z : i = 0 ∨ i = 1 ∨ i = 2 ∨ i = 3 := by omega
  rcases z with rfl | rfl | rfl | rfl
  · cases h
    rfl
  · cases h
    rfl
  · cases h
    rfl
  · cases h
    rfl
theorem letter_dir {i : Nat} {s : Str} (h : letters[i]? = some s) : dirOf s = true := by
  have m := List.mem_of_getElem? h
  unfold letters at m
  simp only [List.mem_cons, List.not_mem_nil, or_false] at m
  rcases m with rfl | rfl | rfl | rfl <;> rfl
theorem firstDir_at {p q : PyData} {i : Nat} {s : Str} (h : letters[i]? = some s) : firstDir p q (letters.drop i) = if PyData.eqv (besideV p (.str s)) q = true then .ret (.str s) else firstDir p q (letters.drop (i + 1)) := by
  obtain ⟨hl, e⟩ := List.getElem?_eq_some_iff.mp h
  rw [List.drop_eq_getElem_cons hl, e]
  rfl
theorem firstDir_ret {p q d : PyData} : ∀ {l : List Str}, (∀ s ∈ l, dirOf s = true) → firstDir p q l = .ret d → ∃ s, d = .str s ∧ dirOf s = true
  | [], _, h => by cases h
  | s :: r, hl, h => by
    unfold firstDir at h
    by_cases c : PyData.eqv (besideV p (.str s)) q = true
    · rw [if_pos c] at h
      cases h
      exact ⟨s, rfl, hl s List.mem_cons_self⟩
    · rw [if_neg c] at h
      exact firstDir_ret (fun x hx => hl x (List.mem_cons_of_mem _ hx)) h
theorem dbR_ret {p q d : PyData} (h : dbR p q = .ret d) : ∃ s, d = .str s ∧ dirOf s = true := by
  unfold dbR at h
  by_cases c1 : ptB p = true
  · rw [if_pos c1] at h
    by_cases c2 : ptB q = true
    · rw [if_pos c2] at h
      refine firstDir_ret (fun s hs => ?_) h
      unfold letters at hs
      simp only [List.mem_cons, List.not_mem_nil, or_false] at hs
      rcases hs with rfl | rfl | rfl | rfl <;> rfl
    · rw [if_neg c2] at h
      cases h
  · rw [if_neg c1] at h
    cases h
theorem bes_eq {i j k l : Int} (s : Str) (b2 : 0 ≤ k ∧ k ≤ 30 ∧ 0 ≤ l ∧ l ≤ 30) : PyData.eqv (besideV (.tuple [.int i, .int j]) (.str s)) (.tuple [.int k, .int l]) = (decide (i + sx (.str s) = k) && decide (j + sy (.str s) = l)) := by
  unfold besideV
  by_cases h : ptB (goTo (.tuple [.int i, .int j]) (.str s)) = true
  · rw [if_pos h]
    exact eqv_ii _ _ _ _
  · rw [if_neg h]
    refine Eq.symm ((Bool.not_eq_true _).mp fun z => h ?_)
    simp only [Bool.and_eq_true, decide_eq_true_eq] at z
    show ((decide (0 ≤ i + sx (.str s)) && decide (i + sx (.str s) ≤ 30)) && (decide (0 ≤ j + sy (.str s)) && decide (j + sy (.str s) ≤ 30))) = true
    simp only [Bool.and_eq_true, decide_eq_true_eq]
    omega
/-! ### the ways: a written dict whose keys are pairs of ints -/
def wayS (i j : Int) : Option Str := if i = 1 ∧ j = 0 then some "r" else if i = 0 ∧ j = 1 then some "u" else if i = -1 ∧ j = 0 then some "l" else if i = 0 ∧ j = -1 then some "d" else none
def wayV (i j : Int) : V := match wayS i j with
  | some s => .str s
  | none => .non
def wayR (p q : PyData) : Rs := match wayS (xOf q - xOf p) (yOf q - yOf p) with
  | some s => .ret (.str s)
  | none => .exc 2 (.tuple [p, q])
theorem first_way {i j k l : Int} (b2 : 0 ≤ k ∧ k ≤ 30 ∧ 0 ≤ l ∧ l ≤ 30) :
    firstDir (.tuple [.int i, .int j]) (.tuple [.int k, .int l]) letters = wayR (.tuple [.int i, .int j]) (.tuple [.int k, .int l]) := by
  unfold letters wayR
  simp only [firstDir, bes_eq _ b2]
  rw [show sx (.str "r") = 1 from rfl, show sy (.str "r") = 0 from rfl, show sx (.str "u") = 0 from rfl, show sy (.str "u") = 1 from rfl, show sx (.str "l") = -1 from rfl, show sy (.str "l") = 0 from rfl, show sx (.str "d") = 0 from rfl, show sy (.str "d") = -1 from rfl]
  simp only [Bool.and_eq_true, decide_eq_true_eq]
  show _ = (match wayS (k - i) (l - j) with
    | some s => Rs.ret (.str s)
    | none => .exc 2 _)
  unfold wayS
  by_cases c1 : i + 1 = k ∧ j + 0 = l
  · rw [if_pos c1, if_pos (show k - i = 1 ∧ l - j = 0 by omega)]
  · rw [if_neg c1, if_neg (show ¬ (k - i = 1 ∧ l - j = 0) by omega)]
    by_cases c2 : i + 0 = k ∧ j + 1 = l
    · rw [if_pos c2, if_pos (show k - i = 0 ∧ l - j = 1 by omega)]
    · rw [if_neg c2, if_neg (show ¬ (k - i = 0 ∧ l - j = 1) by omega)]
      by_cases c3 : i + -1 = k ∧ j + 0 = l
      · rw [if_pos c3, if_pos (show k - i = -1 ∧ l - j = 0 by omega)]
      · rw [if_neg c3, if_neg (show ¬ (k - i = -1 ∧ l - j = 0) by omega)]
        by_cases c4 : i + 0 = k ∧ j + -1 = l
        · rw [if_pos c4, if_pos (show k - i = 0 ∧ l - j = -1 by omega)]
        · rw [if_neg c4, if_neg (show ¬ (k - i = 0 ∧ l - j = -1) by omega)]
def hshII (i j : Int) : Int := reduceHash (Builtin.Tuple.tupleHashOf [hashInt i, hashInt j])
def wayE (K : PySem.W.Frag) (e : DictEntry) (i j : Int) (v : Str) : Bool := pairK K (some (some e.key)) i j && (strK (some (some e.val)) v && decide (e.hash = hshII i j))
def wayTab (K : PySem.W.Frag) (a : Addr) : Bool := match K.lookup a with
  | some ⟨.type c, none, .dict es _, sl⟩ => decide (c = "dict") && (sl.isEmpty && (!(a == sysModules) && (match es.toList with
    | [e0, e1, e2, e3] => wayE K e0 1 0 "r" && (wayE K e1 0 1 "u" && (wayE K e2 (-1) 0 "l" && wayE K e3 0 (-1) "d"))
    | _ => false)))
  | _ => false
/-- a written pair, in the heap itself -/
theorem pairK_at {K : PySem.W.Frag} {v : Value} {x y : Int} (h : pairK K (some (some v)) x y = true) : ∃ (t : Addr) (o : Obj) (its : Array Value) (n : Nat) (u1 u2 : Tok), v = .ref t ∧ K.lookup t = some o ∧ o.cls = .type "tuple" ∧ o.data = .seq its n ∧ its.toList = [.int x u1, .int y u2] := by
  unfold pairK at h
  split at h
  · rename_i a hv
    split at h
    · rename_i c dd its n sl e
      split at h
      · rename_i i t1 j t2 e2
        simp only [Bool.and_eq_true, decide_eq_true_eq] at h
        obtain ⟨rfl, rfl, rfl⟩ := h
        have hv : v = .ref a := Option.some.inj (Option.some.inj hv)
        exact ⟨a, _, its, n, t1, t2, hv, e, rfl, rfl, e2⟩
      · cases h
    · cases h
  · cases h
theorem key_at {P : Program} {w : World} {K : PySem.W.Frag} {v : Value} {x y : Int} (h : pairK K (some (some v)) x y = true) : ∃ t, v = .ref t ∧ ∀ hp : Heap, K.In hp → (tupleKind (mixKind P w)).is hp [.inl x, .inl y] t := by
  obtain ⟨t, o, its, n, u1, u2, rfl, l, c, d, e⟩ := pairK_at h
  refine ⟨t, rfl, fun hp X => ⟨o, its, n, X _ _ l, c, d, ?_⟩⟩
  rw [e]
  exact .cons (keyIs_int x u1) (.cons (keyIs_int y u2) .nil)
theorem wayE_of {P : Program} {w : World} {K : PySem.W.Frag} {e : DictEntry} {i j : Int} {v : Str} (h : wayE K e i j v = true) :
    ∃ (t : Addr) (u : Tok), e = entryOfKey (tupleKind (mixKind P w)) ([.inl i, .inl j], t, .str v u) ∧ ∀ hp : Heap, K.In hp → (tupleKind (mixKind P w)).is hp [.inl i, .inl j] t := by
  obtain ⟨eh, ek, ev⟩ := e
  unfold wayE at h
  simp only [Bool.and_eq_true, decide_eq_true_eq] at h
  obtain ⟨h1, h2, h3⟩ := h
  obtain ⟨t, et, k⟩ := key_at (P := P) (w := w) h1
  obtain ⟨u, eu⟩ := strK_of h2
  have eu : ev = .str v u := Option.some.inj (Option.some.inj eu)
  have et : ek = .ref t := et
  have h3 : eh = hshII i j := h3
  refine ⟨t, u, ?_, k⟩
  rw [eu, et, h3]
  rfl
theorem way_of {P : Program} {w : World} {K : PySem.W.Frag} {a : Addr} (h : wayTab K a = true) :
    (a == sysModules) = false ∧ ∃ (t0 t1 t2 t3 : Addr) (u0 u1 u2 u3 : Tok), ∀ hp : Heap, K.In hp → (∃ ob, hp.get? a = some ob ∧ ob.cls = .type "dict" ∧ ob.dict = none) ∧
      hp.DictOfH (tupleKind (mixKind P w)) a [([.inl 1, .inl 0], t0, .str "r" u0), ([.inl 0, .inl 1], t1, .str "u" u1), ([.inl (-1), .inl 0], t2, .str "l" u2), ([.inl 0, .inl (-1)], t3, .str "d" u3)] := by
  unfold wayTab at h
  split at h
  · rename_i c es n sl e
    simp only [Bool.and_eq_true, decide_eq_true_eq, Bool.not_eq_true'] at h
    obtain ⟨rfl, hsl, low, h⟩ := h
    split at h
    · rename_i e0 e1 e2 e3 el
      simp only [Bool.and_eq_true] at h
      obtain ⟨h0, h1, h2, h3⟩ := h
      obtain ⟨t0, u0, r0, k0⟩ := wayE_of (P := P) (w := w) h0
      obtain ⟨t1, u1, r1, k1⟩ := wayE_of (P := P) (w := w) h1
      obtain ⟨t2, u2, r2, k2⟩ := wayE_of (P := P) (w := w) h2
      obtain ⟨t3, u3, r3, k3⟩ := wayE_of (P := P) (w := w) h3
      have hs : sl = #[] := Array.isEmpty_iff.mp hsl
      refine ⟨low, t0, t1, t2, t3, u0, u1, u2, u3, fun hp X => ⟨⟨_, X _ _ e, rfl, rfl⟩, ⟨_, es, n, X _ _ e, ⟨rfl, rfl, hs⟩, rfl, ?_, ?_, ?_⟩⟩⟩
      · rw [el, r0, r1, r2, r3]
        rfl
      · intro x hx
        simp only [List.mem_cons, List.not_mem_nil, or_false] at hx
        rcases hx with rfl | rfl | rfl | rfl
        · exact k0 hp X
        · exact k1 hp X
        · exact k2 hp X
        · exact k3 hp X
      · show [[Sum.inl 1, Sum.inl 0], [Sum.inl 0, Sum.inl 1], [Sum.inl (-1), Sum.inl 0], [(Sum.inl 0 : L2.Key), Sum.inl (-1)]].Nodup
        decide
    · cases h
  · cases h
theorem key_ii {a b i j : Int} : ([Sum.inl a, Sum.inl b] : List L2.Key) = [Sum.inl i, Sum.inl j] ↔ (i = a ∧ j = b) := by
  constructor
  · intro h
    injection h with h1 h2
    injection h2 with h2 h3
    exact ⟨(Sum.inl.inj h1).symm, (Sum.inl.inj h2).symm⟩
  · rintro ⟨rfl, rfl⟩
    rfl
theorem at_way {t0 t1 t2 t3 : Addr} {u0 u1 u2 u3 : Tok} (i j : Int) :
    RelV (wayV i j) (((atKey [([(Sum.inl 1 : L2.Key), .inl 0], t0, Value.str "r" u0), ([.inl 0, .inl 1], t1, .str "u" u1), ([.inl (-1), .inl 0], t2, .str "l" u2), ([.inl 0, .inl (-1)], t3, .str "d" u3)] [.inl i, .inl j]).map (·.2)).getD .none) := by
  unfold wayV wayS atKey
  simp only [List.find?_cons, key_ii]
  by_cases c1 : i = 1 ∧ j = 0
  · rw [if_pos c1, decide_eq_true c1]
    exact ⟨u0, rfl⟩
  · rw [if_neg c1, decide_eq_false c1]
    by_cases c2 : i = 0 ∧ j = 1
    · rw [if_pos c2, decide_eq_true c2]
      exact ⟨u1, rfl⟩
    · rw [if_neg c2, decide_eq_false c2]
      by_cases c3 : i = -1 ∧ j = 0
      · rw [if_pos c3, decide_eq_true c3]
        exact ⟨u2, rfl⟩
      · rw [if_neg c3, decide_eq_false c3]
        by_cases c4 : i = 0 ∧ j = -1
        · rw [if_pos c4, decide_eq_true c4]
          exact ⟨u3, rfl⟩
        · rw [if_neg c4, decide_eq_false c4]
          rfl
def tWay (d : Addr) (td ty : TE) : TE := fun σ H Q => td σ H fun x H1 => x = .ref d ∧ ty σ H1 fun y H2 => ∃ b i j, y = .ref b ∧ H2 b = some (.tup [.int i, .int j]) ∧ Q (wayV i j) H2
theorem pe_way {X : Cx} {o e : Expr} {apos cpos : Pos} {td ty : TE} {d : Addr} (hu : X.A.units + 1 < cLine) (W : wayTab X.K d = true) (ho : PE X o td) (he : PE X e ty) (m : M1 X o "get" apos e cpos) : PE X (.Call (.Attribute o "get" apos) [e] [] cpos) (tWay d td ty) := by
  obtain ⟨low, t0, t1, t2, t3, u0, u1, u2, u3, dd⟩ := way_of (P := X.prog) (w := X.w) W
  refine ⟨fun pins s σ H Q I h => ?_⟩
  refine wpAny_Call_method m.base m.few m.line PySem.F.plainAttrs_dict PySem.F.slot_dict_get PySem.F.type_dict_get (thn (ho.run pins s σ H _ I h) fun u s1 ⟨x, H1, I1, rx, ex, q1⟩ => ?_)
  subst ex
  obtain rfl : u = Value.ref d := rx
  obtain ⟨⟨ob, g1, g2, g3⟩, _⟩ := dd s1.heap I1.kIn
  refine ⟨⟨ob, g1, g2⟩, fun b q => ?_, ?_⟩
  · cases q
    exact ⟨ob, g1, g3⟩
  rw [m.trees]
  refine Calls.callWith_builtin rfl (Calls.evalArgs_plain (Calls.spliced_cons (thn (he.run pins s1 σ H1 _ I1 q1) fun iv s2 ⟨y, H2, I2, ry, b, i, j, ey, hb, q2⟩ => Calls.spliced_nil ?_)))
  subst ey
  cases (show iv = Value.ref b from ry)
  obtain ⟨_, d2⟩ := dd s2.heap I2.kIn
  exact call_meetsIn PySem.F.slot_dict_get d2.typeIs PySem.F.entry_dict_get (PySem.F.args_dict_get_2 _ _) (meetsH_dict_get (tupleKind (mixKind X.prog X.w)) d b low)
    ⟨tupleKind_room_in1 hu, [.inl i, .inl j], _, key_of (ks := [.inl i, .inl j]) I2.hok hb, d2, ⟨wayV i j, H2, I2.tok _, at_way i j, q2⟩⟩
structure Ways (K : PySem.W.Frag) (mg : Str → Option Value) (a : Addr) : Prop where
  g : mg "WAYS" = some (.ref a)
  t : wayTab K a = true
def spWay : Sp := fun vs H Q _ => ∃ (v u : V) (i j k l : Int), vs = [v, u] ∧ DV H v (.tuple [.int i, .int j]) ∧ DV H u (.tuple [.int k, .int l]) ∧ ∀ H', Same H H' → Q (wayV (k - i) (l - j)) H'
section
variable {P : Program} {w : World} {K : PySem.W.Frag} {mg : Str → Option Value} {base : Heap} {cl : Nat → Addr} {fI : Addr} {fdI : FuncData}
theorem chkP_t {d : PyData} (h : ptB d = true) : chkP d = .ret .none := by
  unfold chkP
  rw [if_pos h]
theorem chkP_f {d : PyData} (h : ptB d = false) : chkP d = .exc 1 d := by
  unfold chkP
  rw [if_neg (by rw [h]; exact Bool.false_ne_true)]
theorem scWB : FnScope ["point", "other", "x", "y", "far_x", "far_y"] ["point", "other"] (defScope (top 18)) := ⟨rfl, rfl, rfl, by decide +kernel, rfl, by decide +kernel, by decide +kernel⟩
theorem ok_way {f aW : Addr} {fd : FuncData} (F : Fun K "way_between" "way_between" (top 18) f fd) (W : Ways K mg aW) : FnOk P w K mg base CX0 1 f fd ["point", "other"] spWay := by
  refine F.ok scWB (fun vs H Q E h => by obtain ⟨v, u, i, j, k, l, rfl, _⟩ := h; rfl) (fun cdv A outer s H vs Q E hr h => ?_)
  obtain ⟨v, u, i, j, k, l, rfl, dv, du, q⟩ := h
  have hu : (A.deeper (envOfC "way_between" (defScope (top 18)) s.heap.objs.size f cdv)).units + 1 < cLine := by
    have := hr.un
    omega
  refine ⟨_, pss_cons (ps_asg (pe_tup (pa_cons (pv 0) (pa_cons (pv 1) pa_nil))) (pg_tup rfl (pgs_cons (pg_tup rfl (pgs_cons (pg_name (i := 2) scWB.nd rfl (Or.inl rfl)) (pgs_cons (pg_name (i := 3) scWB.nd rfl (Or.inl rfl)) pgs_nil))) (pgs_cons (pg_tup rfl (pgs_cons (pg_name (i := 4) scWB.nd rfl (Or.inl rfl)) (pgs_cons (pg_name (i := 5) scWB.nd rfl (Or.inl rfl)) pgs_nil))) pgs_nil))))
    (pss_one (ps_ret (pe_way hu W.t (pe_glob (v := .ref aW) rfl W.g rfl) (pe_tup (pa_cons (pe_op op_sub (pv 4) (pv 2)) (pa_cons (pe_op op_sub (pv 5) (pv 3)) pa_nil))) ⟨rfl, rfl, rfl, rfl⟩))), ?_⟩
  obtain ⟨a, rfl, ha⟩ := dv_pt dv
  obtain ⟨b, rfl, hb⟩ := dv_pt du
  refine ⟨_, rfl, _, rfl, (by show 2 ≤ sizeLine; decide), fun p hp => ?_⟩
  refine ⟨p, _, rfl, sqt upd_same, rfl, _, _, rfl, ⟨a, _, rfl, sqt (stay ha hp), rfl, _, _, rfl, _, _, rfl, rfl, ?_⟩⟩
  refine ⟨_, _, rfl, ⟨b, _, rfl, sqt (stay hb hp), rfl, _, _, rfl, _, _, rfl, rfl, rfl, ?_⟩⟩
  refine ⟨rfl, _, rfl, _, rfl, _, _, rfl, rfl, _, rfl, _, rfl, _, _, rfl, rfl, (by show 2 ≤ sizeLine; decide), fun p2 hp2 => ⟨p2, _, _, rfl, upd_same, ?_⟩⟩
  exact q _ fun b o e => stay (stay e hp) hp2
theorem scDB : FnScope ["point", "other", "direction"] ["point", "other"] (defScope (top 17)) := ⟨rfl, rfl, rfl, by decide +kernel, rfl, by decide +kernel, by decide +kernel⟩
theorem ok_between {f fP fW : Addr} {fd fdP fdW : FuncData} (F : Fun K "direction_between" "direction_between" (top 17) f fd) (T : Tx K mg cl fI) (GI : FnOk P w K mg base CX0 1 fI fdI ["self", "value"] (spIni K)) (bI : Binds K fdI ["self", "value"] [])
    (GP : FnOk P w K mg base (L2N.CX P w) 4 fP fdP ["value"] (spR1 cl chkP)) (AP : At K mg "_check_point" fP fdP ["value"])
    (GW : FnOk P w K mg base CX0 1 fW fdW ["point", "other"] spWay) (AW : At K mg "way_between" fW fdW ["point", "other"]) : FnOk P w K mg base (L2N.CX P w) 6 f fd ["point", "other"] (spR2 cl dbR) := by
  refine okN F scDB spR2_len (fun cdv A outer s H vs Q E hr h tk => ?_)
  obtain ⟨v, u, d, e, rfl, dv, du, q⟩ := h
  refine ⟨_, pss_cons (ps_expr (pe_callS GP (hr.mono (by decide)) rfl AP.g AP.k AP.b (L2N.passAt tk) (pa_cons (pv 0) pa_nil)))
    (pss_cons (ps_expr (pe_callS GP (hr.mono (by decide)) rfl AP.g AP.k AP.b (L2N.passAt tk) (pa_cons (pv 1) pa_nil)))
    (pss_cons (ps_set (i := 2) scDB.nd rfl (Or.inl rfl) (pe_call GW (hr.mono (by decide)) rfl AW.g AW.k AW.b .nil pass0 (pa_cons (pv 0) (pa_cons (pv 1) pa_nil))))
    (pss_cons (ps_if (pt_cmpR op_isN (pv 2) pe_non (nomark _)) (pss_one (L2N.ps_raise rfl tk (pmk_mkx (T.xc 2 (by decide)).mx GI (hr.mono (by decide)) bI rfl (T.gl 2 (by decide)) (pe_tup (pa_cons (pv 0) (pa_cons (pv 1) pa_nil)))))) pss_nil)
    (pss_one (ps_ret (pv 2)))))), ?_⟩
  unfold dbR at q
  refine ⟨_, rfl, v, d, rfl, dv, ?_⟩
  cases e1 : ptB d with
  | false =>
    rw [chkP_f e1]
    rw [e1, if_neg Bool.false_ne_true] at q
    exact q
  | true =>
    rw [chkP_t e1]
    rw [e1, if_pos rfl] at q
    rintro v1 H1 s1 -
    refine ⟨_, rfl, u, e, rfl, du.more s1, ?_⟩
    cases e2 : ptB e with
    | false =>
      rw [chkP_f e2]
      rw [e2, if_neg Bool.false_ne_true] at q
      exact fun v dx H' s2 hd hv => q v dx H' (same_tr s1 s2) hd hv
    | true =>
      rw [chkP_t e2]
      rw [e2, if_pos rfl] at q
      rintro v2 H2 s2 -
      have s12 := same_tr s1 s2
      obtain ⟨i, j, rfl, b1⟩ := pt_of e1
      obtain ⟨k, l, rfl, b2⟩ := pt_of e2
      rw [first_way b2] at q
      refine ⟨_, rfl, _, rfl, v, u, i, j, k, l, rfl, dv.more s12, du.more s12, fun H3 s3 => ?_⟩
      have s13 := same_tr s12 s3
      have q : Out cl (match wayS (k - i) (l - j) with
        | some s => Rs.ret (.str s)
        | none => .exc 2 (.tuple [.tuple [.int i, .int j], .tuple [.int k, .int l]])) H Q E := q
      unfold wayV
      cases hw : wayS (k - i) (l - j) with
      | some z =>
        rw [hw] at q
        exact ⟨_, rfl, rfl, _, rfl, _, rfl, q _ _ s13 (.str z)⟩
      | none =>
        rw [hw] at q
        refine ⟨_, rfl, rfl, _, rfl, _, rfl, _, rfl, (by show 2 ≤ sizeLine; decide), fun p hp dx n nd => ?_⟩
        refine q (.ref p) dx _ (fun b o e => stay (stay (s13 b o e) hp) nd) XD.of (.tup (stay upd_same nd) (.cons ?_ (.cons ?_ .nil)))
        · exact dv.more fun b o e => stay (stay (s13 b o e) hp) nd
        · exact du.more fun b o e => stay (stay (s13 b o e) hp) nd
theorem scEB : FnScope ["point", "other"] ["point", "other"] (defScope (top 19)) := ⟨rfl, rfl, rfl, by decide +kernel, rfl, by decide +kernel, by decide +kernel⟩
theorem ok_ebetween {f fB : Addr} {fd fdB : FuncData} (F : Fun K "edge_between" "edge_between" (top 19) f fd)
    (GB : FnOk P w K mg base (L2N.CX P w) 6 fB fdB ["point", "other"] (spR2 cl dbR)) (AB : At K mg "direction_between" fB fdB ["point", "other"]) : FnOk P w K mg base (L2N.CX P w) 7 f fd ["point", "other"] (spR2 cl ebR) := by
  refine okN F scEB spR2_len (fun cdv A outer s H vs Q E hr h tk => ?_)
  obtain ⟨v, u, d, e, rfl, dv, du, q⟩ := h
  have hu : (A.deeper (envOfC "edge_between" (defScope (top 19)) s.heap.objs.size f cdv)).units + 65 < cLine := by
    have := hr.un
    omega
  refine ⟨_, pss_cons (ps_if (pt_cmpR (op_inT hu) (pe_callS GB hr rfl AB.g AB.k AB.b (L2N.passAt tk) (pa_cons (pv 0) (pa_cons (pv 1) pa_nil))) (pe_tup (pa_cons pe_str (pa_cons pe_str pa_nil))) (by rfl)) (pss_one (ps_ret (pe_tup (pa_cons (pv 0) (pa_cons (pv 1) pa_nil))))) pss_nil)
    (pss_one (ps_ret (pe_tup (pa_cons (pv 1) (pa_cons (pv 0) pa_nil))))), ?_⟩
  refine ⟨_, rfl, _, rfl, v, u, d, e, rfl, dv, du, ?_⟩
  unfold ebR at q
  cases h1 : dbR d e with
  | exc c x =>
    rw [h1] at q
    exact q
  | ret x =>
    rw [h1] at q
    obtain ⟨z, rfl, hz⟩ := dbR_ret h1
    have q : Out cl (if ([PyData.str "r", .str "u"].any fun y => PyData.eqv y (.str z)) = true then Rs.ret (.tuple [d, e]) else .ret (.tuple [e, d])) H Q E := q
    intro v1 H1 s1 dv1
    rw [dv_str dv1]
    refine ⟨(by show 2 ≤ sizeLine; decide), fun p hp => ?_⟩
    have sz : PyData.strOk z = true := by
      rcases dir_cases hz with rfl | rfl | rfl | rfl <;> decide +kernel
    have s2 : Same H (upd H1 p (.tup [.str "r", .str "u"])) := fun b o e => stay (s1 b o e) hp
    refine ⟨.str z, [.str "r", .str "u"], .str z, .tup (sqt upd_same) (.cons (.str _) (.cons (.str _) .nil)), shaped_str sz, by decide +kernel, _, rfl, ite2 (fun c1 => ?_) (fun c1 => ?_)⟩
    · rw [if_pos c1] at q
      refine ⟨_, rfl, _, rfl, (by show 2 ≤ sizeLine; decide), fun p2 hp2 => ?_⟩
      have s3 := fun b o e => stay (a := p2) (o := .tup [v, u]) (s2 b o e) hp2
      exact q _ _ s3 (.tup upd_same (.cons (dv.more s3) (.cons (du.more s3) .nil)))
    · rw [if_neg c1] at q
      refine ⟨_, rfl, _, rfl, (by show 2 ≤ sizeLine; decide), fun p2 hp2 => ?_⟩
      have s3 := fun b o e => stay (a := p2) (o := .tup [u, v]) (s2 b o e) hp2
      exact q _ _ s3 (.tup upd_same (.cons (du.more s3) (.cons (dv.more s3) .nil)))
end
end K1
set_option Elab.async false
set_option linter.all false
set_option maxRecDepth 100000
set_option maxHeartbeats 16000000
namespace K1
open PySem PySem.Spec PyProof.Rows L2 Nv
def resR (k : Nat) (d e : PyData) : Rs := match k with
  | 0 => besideR d e
  | 1 => dbR d e
  | 2 => ebR d e
  | _ => oppR d
def tg : Rs → Str
  | .ret _ => "told"
  | .exc 0 _ => "direction"
  | .exc 1 _ => "point"
  | .exc _ _ => "edge"
def dat : Rs → PyData
  | .ret d => d
  | .exc _ d => d
def okc : Rs → Prop
  | .ret _ => True
  | .exc c _ => c < 3
def spTell : Sp := fun vs H Q _ => ∃ (k : Nat) (v u : V) (d e : PyData), vs = [.int k, v, u] ∧ k < 4 ∧ DV H v d ∧ DV H u e ∧ Nice d ∧ Nice e ∧ (∀ z, d = .str z → PyData.strOk z = true) ∧ (∀ z, e = .str z → PyData.strOk z = true) ∧ Nice (dat (resR k d e)) ∧
  ∀ p H', Same H H' → H' p = some (.lst [.str (tg (resR k d e)), .str (dat (resR k d e)).shown]) → Q (.ref p) H'
theorem okc_first {p q : PyData} : ∀ l, okc (firstDir p q l)
  | [] => by show 2 < 3; decide
  | s :: r => by
    unfold firstDir
    by_cases c : PyData.eqv (besideV p (.str s)) q = true
    · rw [if_pos c]
      trivial
    · rw [if_neg c]
      exact okc_first r
theorem okc_db (d e : PyData) : okc (dbR d e) := by
  unfold dbR
  by_cases c1 : ptB d = true
  · rw [if_pos c1]
    by_cases c2 : ptB e = true
    · rw [if_pos c2]
      exact okc_first _
    · rw [if_neg c2]
      show 1 < 3
      decide
  · rw [if_neg c1]
    show 1 < 3
    decide
theorem okc_res (k : Nat) (d e : PyData) : okc (resR k d e) := by
  unfold resR
  split
  · unfold besideR
    by_cases c1 : ptB d = true
    · rw [if_pos c1]
      by_cases c2 : dirB e = true
      · rw [if_pos c2]
        trivial
      · rw [if_neg c2]
        show 0 < 3
        decide
    · rw [if_neg c1]
      show 1 < 3
      decide
  · exact okc_db d e
  · unfold ebR
    have := okc_db d e
    split
    · rename_i y z hz
      by_cases c : ([PyData.str "r", .str "u"].any fun y => PyData.eqv y z) = true
      · rw [if_pos c]
        trivial
      · rw [if_neg c]
        trivial
    · rename_i h
      rw [h] at this
      exact this
  · unfold oppR
    by_cases c : dirB d = true
    · rw [if_pos c]
      trivial
    · rw [if_neg c]
      show 0 < 3
      decide
structure Tr (mg : Str → Option Value) : Prop where
  rep : mg "repr" = none
section
variable {P : Program} {w : World} {K : PySem.W.Frag} {mg : Str → Option Value} {base : Heap} {cl : Nat → Addr} {fI : Addr} {fdI : FuncData}
theorem scCa : FnScope ["_law_kind", "_law_one", "_law_other", "e"] ["_law_kind", "_law_one", "_law_other"] (defScope (top 33)) := ⟨rfl, rfl, rfl, by decide +kernel, rfl, by decide +kernel, by decide +kernel⟩
theorem kcase {k j : Nat} {A B : Prop} (h1 : k = j → A) (h2 : k ≠ j → B) : if decide (V.int (k : Int) = V.int ((j : Nat) : Int)) = true then A else B := by
  by_cases e : k = j
  · rw [if_pos (by rw [e]; exact decide_eq_true rfl)]
    exact h1 e
  · rw [if_neg (by
      intro z
      have z1 := V.int.inj (of_decide_eq_true z)
      exact e (by omega))]
    exact h2 e
theorem ok_caught {f fB fD fE fO : Addr} {fd fdB fdD fdE fdO : FuncData} (F : Fun K "_law_caught" "_law_caught" (top 33) f fd) (T : Tx K mg cl fI) (R : Tr mg)
    (GB : FnOk P w K mg base (L2N.CX P w) 5 fB fdB ["point", "direction"] (spR2 cl besideR)) (AB : At K mg "beside" fB fdB ["point", "direction"])
    (GD : FnOk P w K mg base (L2N.CX P w) 6 fD fdD ["point", "other"] (spR2 cl dbR)) (AD : At K mg "direction_between" fD fdD ["point", "other"])
    (GE : FnOk P w K mg base (L2N.CX P w) 7 fE fdE ["point", "other"] (spR2 cl ebR)) (AE : At K mg "edge_between" fE fdE ["point", "other"])
    (GO : FnOk P w K mg base (L2N.CX P w) 5 fO fdO ["direction"] (spR1 cl oppR)) (AO : At K mg "opposite" fO fdO ["direction"]) : FnG P w K mg base 8 f fd ["_law_kind", "_law_one", "_law_other"] spTell := by
  refine FnG.made F scCa (fun vs H Q E h => ?_) (fun cdv A outer s H vs Q E gd hr h => ?_)
  · obtain ⟨k, v, u, d, e, rfl, _⟩ := h
    rfl
  · obtain ⟨k, v, u, d, e, rfl, hk, dv, du, nd, ne, td, te, nr, q⟩ := h
    have hu : ∀ h : Option Value, ((A.deeper (envOfC "_law_caught" (defScope (top 33)) s.heap.objs.size f cdv)).mark h).units + 100 < cLine := fun h => by
      have := hr.un
      show (A.deeper (envOfC "_law_caught" (defScope (top 33)) s.heap.objs.size f cdv)).units + 100 < cLine
      omega
    have hu0 : (A.deeper (envOfC "_law_caught" (defScope (top 33)) s.heap.objs.size f cdv)).units + 100 < cLine := hu none
    refine ⟨_, pss_one (NvN.ps_try_hds (Wout := fun _ _ _ _ => False) rfl rfl scCa.nd takesN0
      (fun W pn xe tk _ => pss_cons (ps_if (pt_cmpR op_eq (pv 0) pe_int (nomark _)) (pss_one (ps_ret (pe_lst (pa_cons pe_str (pa_cons (pe_callB (call_reprD gd hu0) (by rfl) R.rep (by decide +kernel) (pa_cons (pe_callS GB (hr.mono (by decide)) rfl AB.g AB.k AB.b (L2N.passAt tk) (pa_cons (pv 1) (pa_cons (pv 2) pa_nil))) pa_nil)) pa_nil))))) pss_nil)
        (pss_cons (ps_if (pt_cmpR op_eq (pv 0) pe_int (nomark _)) (pss_one (ps_ret (pe_lst (pa_cons pe_str (pa_cons (pe_callB (call_reprD gd hu0) (by rfl) R.rep (by decide +kernel) (pa_cons (pe_callS GD (hr.mono (by decide)) rfl AD.g AD.k AD.b (L2N.passAt tk) (pa_cons (pv 1) (pa_cons (pv 2) pa_nil))) pa_nil)) pa_nil))))) pss_nil)
        (pss_cons (ps_if (pt_cmpR op_eq (pv 0) pe_int (nomark _)) (pss_one (ps_ret (pe_lst (pa_cons pe_str (pa_cons (pe_callB (call_reprD gd hu0) (by rfl) R.rep (by decide +kernel) (pa_cons (pe_callS GE hr rfl AE.g AE.k AE.b (L2N.passAt tk) (pa_cons (pv 1) (pa_cons (pv 2) pa_nil))) pa_nil)) pa_nil))))) pss_nil)
        (pss_one (ps_ret (pe_lst (pa_cons pe_str (pa_cons (pe_callB (call_reprD gd hu0) (by rfl) R.rep (by decide +kernel) (pa_cons (pe_callS GO (hr.mono (by decide)) rfl AO.g AO.k AO.b (L2N.passAt tk) (pa_cons (pv 1) pa_nil)) pa_nil)) pa_nil))))))))
      (.named (i := 3) (c := .ref (cl 1)) ⟨rfl, by decide, .inl (T.gl 1 (by decide))⟩ rfl rfl (fun a oe cls d pn hz hf nb => pss_one (ps_ret (pe_lst (pa_cons pe_str (pa_cons (pe_callB (call_reprD (X := Cx.suite _ a ((a, oe) :: pn)) gd (hu _)) (by rfl) R.rep (by decide +kernel) (pa_cons (pe_xf (C := cl 1) (T.xc 1 (by decide)).fl (T.xc 1 (by decide)).mx.nov hz.zc hf (pv 3)) pa_nil)) pa_nil)))))
      (.named (i := 3) (c := .ref (cl 0)) ⟨rfl, by decide, .inl (T.gl 0 (by decide))⟩ rfl rfl (fun a oe cls d pn hz hf nb => pss_one (ps_ret (pe_lst (pa_cons pe_str (pa_cons (pe_callB (call_reprD (X := Cx.suite _ a ((a, oe) :: pn)) gd (hu _)) (by rfl) R.rep (by decide +kernel) (pa_cons (pe_xf (C := cl 0) (T.xc 0 (by decide)).fl (T.xc 0 (by decide)).mx.nov hz.zc hf (pv 3)) pa_nil)) pa_nil)))))
      (.named (i := 3) (c := .ref (cl 2)) ⟨rfl, by decide, .inl (T.gl 2 (by decide))⟩ rfl rfl (fun a oe cls d pn hz hf nb => pss_one (ps_ret (pe_lst (pa_cons pe_str (pa_cons (pe_callB (call_reprD (X := Cx.suite _ a ((a, oe) :: pn)) gd (hu _)) (by rfl) R.rep (by decide +kernel) (pa_cons (pe_xf (C := cl 2) (T.xc 2 (by decide)).fl (T.xc 2 (by decide)).mx.nov hz.zc hf (pv 3)) pa_nil)) pa_nil)))))
      (.bare (c := .ref (cl 3)) ⟨rfl, by decide, .inl (T.gl 3 (by decide))⟩ (fun a oe cls d pn hz hf nb => pss_one (ps_ret (pe_lst (pa_cons pe_str (pa_cons pe_str pa_nil))))) .nil))))), ?_⟩
    generalize hW : wHds _ _ _ _ = W
    have hE : ∀ (c : Nat) (x : PyData) (y : V) (dx : Addr) (H1 : Hp), c < 3 → resR k d e = .exc c x → Same H H1 → XD H1 dx y → DV H1 y x → W (.ref (cl c)) (some dx) (L2.start ["_law_kind", "_law_one", "_law_other", "e"] [.int k, v, u]) H1 := by
      intro c x y dx H1 hc hr1 s1 hd hy
      obtain ⟨n, hd⟩ := hd
      have nx : Nice x := by
        have := nr
        rw [hr1] at this
        exact this
      rw [← hW]
      have cc : c = 0 ∨ c = 1 ∨ c = 2 := by omega
      rcases cc with rfl | rfl | rfl
      · refine ⟨false, T.exm 0 1 (by decide) (by decide), (fun z => nomatch z), fun _ => ⟨true, T.exm 0 0 (by decide) (by decide), fun _ a na => ?_, fun z => nomatch z⟩⟩
        refine ⟨_, rfl, rfl, rfl, dx, _, y, rfl, hd, rfl, y, x, rfl, hy, nx, (by show 2 ≤ sizeLine; decide), fun p hp => ?_⟩
        refine q p _ (fun b o e => stay (s1 b o e) hp) ?_
        rw [upd_same, hr1]
        rfl
      · refine ⟨true, T.exm 1 1 (by decide) (by decide), fun _ a na => ?_, fun z => nomatch z⟩
        refine ⟨_, rfl, rfl, rfl, dx, _, y, rfl, hd, rfl, y, x, rfl, hy, nx, (by show 2 ≤ sizeLine; decide), fun p hp => ?_⟩
        refine q p _ (fun b o e => stay (s1 b o e) hp) ?_
        rw [upd_same, hr1]
        rfl
      · refine ⟨false, T.exm 2 1 (by decide) (by decide), (fun z => nomatch z), fun _ => ⟨false, T.exm 2 0 (by decide) (by decide), (fun z => nomatch z), fun _ => ⟨true, T.exm 2 2 (by decide) (by decide), fun _ a na => ?_, fun z => nomatch z⟩⟩⟩
        refine ⟨_, rfl, rfl, rfl, dx, _, y, rfl, hd, rfl, y, x, rfl, hy, nx, (by show 2 ≤ sizeLine; decide), fun p hp => ?_⟩
        refine q p _ (fun b o e => stay (s1 b o e) hp) ?_
        rw [upd_same, hr1]
        rfl
    have oc := okc_res k d e
    have fin : ∀ (r : Rs) (Q' : VK) (E' : XK), resR k d e = r → (∀ x y H1, r = .ret x → Same H H1 → DV H1 y x → Q' y H1) → (∀ c x y dx H1, r = .exc c x → c < 3 → Same H H1 → XD H1 dx y → DV H1 y x → E' (.ref (cl c)) (some dx) H1) → Out cl r H Q' E' := by
      rintro (x | ⟨c, x⟩) Q' E' hr1 h1 h2
      · exact fun y H1 s1 hy => h1 x y H1 rfl s1 hy
      · rw [hr1] at oc
        exact fun y dx H1 s1 hd hy => h2 c x y dx H1 rfl oc s1 hd hy
    have ret : ∀ {r : Rs}, resR k d e = r → ∀ (x : PyData) (y : V) (H1 : Hp), r = .ret x → Same H H1 → DV H1 y x → ∃ v' d', [y] = [v'] ∧ DV H1 v' d' ∧ Nice d' ∧ (2 ≤ sizeLine ∧ ∀ p, H1 p = none → Q (.ref p) (upd H1 p (.lst [.str "told", .str d'.shown]))) := by
      intro r hr1 x y H1 hx s1 hy
      have nx : Nice x := by
        have := nr
        rw [hr1, hx] at this
        exact this
      refine ⟨y, x, rfl, hy, nx, (by decide), fun p hp => q p _ (fun b o e => stay (s1 b o e) hp) ?_⟩
      rw [upd_same, hr1, hx]
      rfl
    refine ⟨_, rfl, rfl, _, rfl, kcase (j := 0) (fun e0 => ?_) (fun n0 => ?_)⟩
    · subst e0
      exact ⟨_, rfl, _, rfl, v, u, d, e, rfl, dv, du, fin _ _ _ rfl (ret rfl) fun c x y dx H1 hr1 hc s1 hd hy => hE c x y dx H1 hc hr1 s1 hd hy⟩
    refine ⟨_, rfl, rfl, _, rfl, kcase (j := 1) (fun e0 => ?_) (fun n1 => ?_)⟩
    · subst e0
      exact ⟨_, rfl, _, rfl, v, u, d, e, rfl, dv, du, fin _ _ _ rfl (ret rfl) fun c x y dx H1 hr1 hc s1 hd hy => hE c x y dx H1 hc hr1 s1 hd hy⟩
    refine ⟨_, rfl, rfl, _, rfl, kcase (j := 2) (fun e0 => ?_) (fun n2 => ?_)⟩
    · subst e0
      exact ⟨_, rfl, _, rfl, v, u, d, e, rfl, dv, du, fin _ _ _ rfl (ret rfl) fun c x y dx H1 hr1 hc s1 hd hy => hE c x y dx H1 hc hr1 s1 hd hy⟩
    have e3 : k = 3 := by omega
    subst e3
    exact ⟨_, rfl, v, d, rfl, dv, fin _ _ _ rfl (ret rfl) fun c x y dx H1 hr1 hc s1 hd hy => hE c x y dx H1 hc hr1 s1 hd hy⟩
end
end K1
set_option Elab.async false
set_option linter.all false
set_option maxRecDepth 100000
set_option maxHeartbeats 16000000
namespace K1
open PySem PySem.Spec PyProof.Rows L2 Nv
/-! ### steps and nearness -/
theorem near30 : ∀ a : Fin 61, ∀ b : Fin 61, (decide ((((a.val : Nat) : Int) - 30) ^ 2 + (((b.val : Nat) : Int) - 30) ^ 2 = 1)) =
    ((decide (((a.val : Nat) : Int) - 30 = -1) && decide (((b.val : Nat) : Int) - 30 = 0)) || ((decide (((a.val : Nat) : Int) - 30 = 0) && decide (((b.val : Nat) : Int) - 30 = -1)) ||
      ((decide (((a.val : Nat) : Int) - 30 = 1) && decide (((b.val : Nat) : Int) - 30 = 0)) || (decide (((a.val : Nat) : Int) - 30 = 0) && decide (((b.val : Nat) : Int) - 30 = 1))))) := by decide +kernel
theorem near_is {a b : Int} (ha : -30 ≤ a ∧ a ≤ 30) (hb : -30 ≤ b ∧ b ≤ 30) : a ^ 2 + b ^ 2 = 1 ↔ (a = -1 ∧ b = 0) ∨ (a = 0 ∧ b = -1) ∨ (a = 1 ∧ b = 0) ∨ (a = 0 ∧ b = 1) := by
  have h := near30 ⟨(a + 30).toNat, by omega⟩ ⟨(b + 30).toNat, by omega⟩
  have ea : (((a + 30).toNat : Nat) : Int) - 30 = a := by omega
  have eb : (((b + 30).toNat : Nat) : Int) - 30 = b := by omega
  simp only [ea, eb] at h
  rw [Bool.eq_iff_iff] at h
  simpa only [Bool.or_eq_true, Bool.and_eq_true, decide_eq_true_eq] using h
theorem edge_same (d : PyData) : edgeB d = ledgeB d := by
  cases d with
  | tuple ds =>
    rcases ds with _ | ⟨p, _ | ⟨q, _ | ⟨c, r⟩⟩⟩
    · rfl
    · rfl
    · show (ptB p && (ptB q && stepB p q)) = (ptB p && (ptB q && (nearB p q && decide (xOf p + yOf p < xOf q + yOf q))))
      cases e1 : ptB p with
      | false => rfl
      | true =>
        cases e2 : ptB q with
        | false => rfl
        | true =>
          obtain ⟨i, j, rfl, b1⟩ := pt_of e1
          obtain ⟨k, l, rfl, b2⟩ := pt_of e2
          show ((decide (k - i = 1) && decide (l - j = 0)) || (decide (k - i = 0) && decide (l - j = 1))) = (decide ((i - k) ^ 2 + (j - l) ^ 2 = 1) && decide (i + j < k + l))
          rw [Bool.eq_iff_iff]
          simp only [Bool.or_eq_true, Bool.and_eq_true, decide_eq_true_eq]
          rw [near_is (a := i - k) (b := j - l) (by omega) (by omega)]
          omega
    · rfl
  | _ => rfl
def dirStr (i j k l : Int) : Str := if i ≠ k then (if k > i then "r" else "l") else (if l > j then "u" else "d")
theorem first_is {i j k l : Int} (b1 : 0 ≤ i ∧ i ≤ 30 ∧ 0 ≤ j ∧ j ≤ 30) (b2 : 0 ≤ k ∧ k ≤ 30 ∧ 0 ≤ l ∧ l ≤ 30) :
    firstDir (.tuple [.int i, .int j]) (.tuple [.int k, .int l]) letters = if (i - k) ^ 2 + (j - l) ^ 2 = 1 then .ret (.str (dirStr i j k l)) else .exc 2 (.tuple [.tuple [.int i, .int j], .tuple [.int k, .int l]]) := by
  unfold letters
  simp only [firstDir, bes_eq _ b2]
  rw [show sx (.str "r") = 1 from rfl, show sy (.str "r") = 0 from rfl, show sx (.str "u") = 0 from rfl, show sy (.str "u") = 1 from rfl, show sx (.str "l") = -1 from rfl, show sy (.str "l") = 0 from rfl, show sx (.str "d") = 0 from rfl, show sy (.str "d") = -1 from rfl]
  simp only [Bool.and_eq_true, decide_eq_true_eq]
  have nr := near_is (a := i - k) (b := j - l) (by omega) (by omega)
  unfold dirStr
  by_cases c1 : i + 1 = k ∧ j + 0 = l
  · rw [if_pos c1, if_pos (nr.mpr (by omega)), if_pos (by omega), if_pos (by omega)]
  · rw [if_neg c1]
    by_cases c2 : i + 0 = k ∧ j + 1 = l
    · rw [if_pos c2, if_pos (nr.mpr (by omega)), if_neg (by omega), if_pos (by omega)]
    · rw [if_neg c2]
      by_cases c3 : i + -1 = k ∧ j + 0 = l
      · rw [if_pos c3, if_pos (nr.mpr (by omega)), if_pos (by omega), if_neg (by omega)]
      · rw [if_neg c3]
        by_cases c4 : i + 0 = k ∧ j + -1 = l
        · rw [if_pos c4, if_pos (nr.mpr (by omega)), if_neg (by omega), if_neg (by omega)]
        · rw [if_neg c4, if_neg fun z => by
            have := nr.mp z
            omega]
end K1
set_option Elab.async false
set_option linter.all false
set_option maxRecDepth 100000
set_option maxHeartbeats 16000000
namespace K1
open PySem PySem.Spec PyProof.Rows L2 Nv
section
variable {X : Cx}
def rMM (f : PyData → List PyData → PyData) (K : PySem.W.Frag) : List V → Hp → VK → Prop := fun vs H Q => ∃ (a : Addr) (y z : V) (d e : PyData), vs = [V.ref a] ∧ SqL K H a [y, z] ∧ Dp K H y d ∧ Dp K H z e ∧ PySem.W.AlikeAll [d, e] ∧ d.canLay0 = true ∧ e.canLay0 = true ∧ PyData.depthAll [d, e] ≤ 60 ∧
  ∀ v, ((v = y ∧ f d [e] = d) ∨ (v = z ∧ f d [e] = e)) → Q v H
theorem mm_end {pins : List (Addr × Obj)} {σ : L2.St} {H : Hp} {s : Shared} {Q : VK} {K : PySem.W.Frag} {y z : V} {d e m : PyData} {u1 u2 : Value} {as1 as2 : List Addr} (I : Inv X pins σ H s) (ry : RelV y u1) (rz : RelV z u2) (r1 : Reads s.heap u1 d as1) (r2 : Reads s.heap u2 e as2)
    (c1 : d.canLay0 = true) (c2 : e.canLay0 = true) (q : ∀ v, ((v = y ∧ m = d) ∨ (v = z ∧ m = e)) → Q v H) :
    ∀ (i : Nat) (v : Value) (h' : Heap) (tk : Tok) (bs : List Addr), (#[u1, u2] : Array Value)[i]? = some v → Reads h' v m bs → (∀ b o, s.heap.get? b = some o → h'.get? b = some o) → EP X pins σ Q v { s with heap := h', toks := tk } := by
  intro i v h' tk bs hv rm hk
  rcases i with _ | _ | i
  · cases hv
    have e1 := (PySem.Reads.unique (Reads.keeps hk r1) _ _ rm).1
    exact ⟨y, H, I.kept hk, ry, q y (.inl ⟨rfl, e1.symm⟩)⟩
  · cases hv
    have e1 := (PySem.Reads.unique (Reads.keeps hk r2) _ _ rm).1
    exact ⟨z, H, I.kept hk, rz, q z (.inr ⟨rfl, e1.symm⟩)⟩
  · cases hv
theorem cr_minP (hc : X.calm = true) (hu : X.A.units + 100 < cLine) : CallR X (.builtin "min") (rMM PySem.W.minD X.K) := by
  intro pins s σ H vs us Q I r h
  obtain ⟨a, y, z, d, e, rfl, hs, hd, he, al, c1, c2, dp, q⟩ := h
  obtain ⟨its, rv, hl, _⟩ := I.list hs
  rw [Vals.ref1 r]
  cases rv with
  | cons ry rv =>
    rename_i u1 t1
    cases rv with
    | cons rz rv =>
      rename_i u2 t2
      cases rv
      obtain ⟨as1, r1⟩ := Dp.reads I d y u1 hd ry
      obtain ⟨as2, r2⟩ := Dp.reads I e z u2 he rz
      exact PySem.W.min_list_data (I.ok.hd hc) hl.isList (.cons r1 (.cons r2 .nil)) al (by omega) (mm_end (K := X.K) I ry rz r1 r2 c1 c2 q)
theorem cr_maxP (hc : X.calm = true) (hu : X.A.units + 100 < cLine) : CallR X (.builtin "max") (rMM PySem.W.maxD X.K) := by
  intro pins s σ H vs us Q I r h
  obtain ⟨a, y, z, d, e, rfl, hs, hd, he, al, c1, c2, dp, q⟩ := h
  obtain ⟨its, rv, hl, _⟩ := I.list hs
  rw [Vals.ref1 r]
  cases rv with
  | cons ry rv =>
    rename_i u1 t1
    cases rv with
    | cons rz rv =>
      rename_i u2 t2
      cases rv
      obtain ⟨as1, r1⟩ := Dp.reads I d y u1 hd ry
      obtain ⟨as2, r2⟩ := Dp.reads I e z u2 he rz
      exact PySem.W.max_list_data (I.ok.hd hc) hl.isList (.cons r1 (.cons r2 .nil)) al (by omega) (mm_end (K := X.K) I ry rz r1 r2 c1 c2 q)
end
theorem alike_ii (i j k l : Int) : PySem.W.AlikeAll [.tuple [.int i, .int j], .tuple [.int k, .int l]] := by
  constructor
  · intro x hx y hy
    simp only [List.mem_cons, List.not_mem_nil, or_false] at hx hy
    rcases hx with rfl | rfl <;> rcases hy with rfl | rfl <;> simp [PySem.W.alike, PySem.W.alikeAll]
  · intro x hx
    simp only [List.mem_cons, List.not_mem_nil, or_false] at hx
    rcases hx with rfl | rfl <;> exact fun h => nomatch h
theorem min_ii (i j k l : Int) : PySem.W.minD (.tuple [.int i, .int j]) [.tuple [.int k, .int l]] = if k < i ∨ (k = i ∧ l < j) then .tuple [.int k, .int l] else .tuple [.int i, .int j] := by
  show (if PySem.W.dataLt (.tuple [.int k, .int l]) (.tuple [.int i, .int j]) = true then _ else _) = _
  rw [PySem.W.dataLt_ii]
  simp only [decide_eq_true_eq]
theorem max_ii (i j k l : Int) : PySem.W.maxD (.tuple [.int i, .int j]) [.tuple [.int k, .int l]] = if i < k ∨ (i = k ∧ j < l) then .tuple [.int k, .int l] else .tuple [.int i, .int j] := by
  show (if PySem.W.dataLt (.tuple [.int i, .int j]) (.tuple [.int k, .int l]) = true then _ else _) = _
  rw [PySem.W.dataLt_ii]
  simp only [decide_eq_true_eq]
theorem lay_ii (i j : Int) : (PyData.tuple [.int i, .int j]).canLay0 = true := SeqAt.canLay_of_shaped (shaped_ii i j)
theorem eb_is {i j k l : Int} (b1 : 0 ≤ i ∧ i ≤ 30 ∧ 0 ≤ j ∧ j ≤ 30) (b2 : 0 ≤ k ∧ k ≤ 30 ∧ 0 ≤ l ∧ l ≤ 30) (nr : (i - k) ^ 2 + (j - l) ^ 2 = 1) (h1 : dbR (.tuple [.int i, .int j]) (.tuple [.int k, .int l]) = .ret (.str (dirStr i j k l))) :
    ebR (.tuple [.int i, .int j]) (.tuple [.int k, .int l]) = .ret (.tuple [PySem.W.minD (.tuple [.int i, .int j]) [.tuple [.int k, .int l]], PySem.W.maxD (.tuple [.int i, .int j]) [.tuple [.int k, .int l]]]) := by
  unfold ebR
  rw [h1]
  have nq := (near_is (a := i - k) (b := j - l) (by omega) (by omega)).mp nr
  show (if _ then Rs.ret _ else Rs.ret _) = _
  rw [min_ii, max_ii]
  unfold dirStr
  rcases nq with h | h | h | h
  · rw [if_pos (by omega : i ≠ k), if_pos (by omega : k > i), if_pos (by decide +kernel), if_neg (by omega), if_pos (by omega)]
  · rw [if_neg (by omega : ¬ i ≠ k), if_pos (by omega : l > j), if_pos (by decide +kernel), if_neg (by omega), if_pos (by omega)]
  · rw [if_pos (by omega : i ≠ k), if_neg (by omega : ¬ k > i), if_neg (by decide +kernel), if_pos (by omega), if_neg (by omega)]
  · rw [if_neg (by omega : ¬ i ≠ k), if_neg (by omega : ¬ l > j), if_neg (by decide +kernel), if_pos (by omega), if_neg (by omega)]
end K1
set_option Elab.async false
set_option linter.all false
set_option maxRecDepth 100000
set_option maxHeartbeats 16000000
namespace K1
open PySem PySem.Spec PyProof.Rows L2 Nv
section
variable {P : Program} {w : World} {K : PySem.W.Frag} {mg : Str → Option Value} {base : Heap}
theorem scDu : FnScope ["_law_kind", "_law_one", "_law_other", "_law_x", "_law_goal"] ["_law_kind", "_law_one", "_law_other"] (defScope (top 35)) := ⟨rfl, rfl, rfl, by decide +kernel, rfl, by decide +kernel, by decide +kernel⟩
theorem ok_due {f fL fP fN : Addr} {fd fdL fdP fdN : FuncData} (F : Fun K "_law_due" "_law_due" (top 35) f fd) (T : Ta mg) (M : Tm mg) (R : Tr mg)
    (GL : FnOk P w K mg base CX0 1 fL fdL ["_law_value"] (spBs dirB)) (AL : At K mg "_law_is_letter" fL fdL ["_law_value"])
    (GP : FnOk P w K mg base CX0 2 fP fdP ["_law_value"] (spB ptB)) (AP : At K mg "_law_point" fP fdP ["_law_value"])
    (GN : FnOk P w K mg base CX0 1 fN fdN ["_law_one", "_law_other"] spNear) (AN : At K mg "_law_near" fN fdN ["_law_one", "_law_other"]) : FnG P w K mg base 3 f fd ["_law_kind", "_law_one", "_law_other"] spTell := by
  refine FnG.made F scDu (fun vs H Q E h => ?_) (fun cdv A outer s H vs Q E gd hr h => ?_)
  · obtain ⟨k, v, u, d, e, rfl, _⟩ := h
    rfl
  · obtain ⟨k, v, u, d, e, rfl, hk, dv, du, nd, ne, td, te, nr, q⟩ := h
    have hr1 : Room 1 _ := hr.mono (by decide)
    have hu : (A.deeper (envOfC "_law_due" (defScope (top 35)) s.heap.objs.size f cdv)).units + 100 < cLine := by
      have := hr.un
      omega
    refine ⟨_, pss_cons (ps_if (pt_cmpR op_eq (pv 0) pe_int (nomark _))
        (pss_cons (ps_if (pt_not (pt_val (pe_call GL hr1 rfl AL.g AL.k AL.b .nil pass0 (pa_cons (pv 1) pa_nil)))) (pss_one (ps_ret (pe_lst (pa_cons pe_str (pa_cons (pe_callB (call_reprD gd hu) (by rfl) R.rep (by decide +kernel) (pa_cons (pv 1) pa_nil)) pa_nil))))) pss_nil)
        (pss_one (ps_ret (pe_lst (pa_cons pe_str (pa_cons (pe_callB (call_reprD gd hu) (by rfl) R.rep (by decide +kernel) (pa_cons (pe_ix ix_str pe_str (pe_bm PySem.F.plainAttrs_str PySem.F.slot_str_index PySem.F.type_str_index mt_sindex pe_str (pa_cons (pv 1) pa_nil)) (fun _ _ => rfl)) pa_nil)) pa_nil)))))) pss_nil)
      (pss_cons (ps_if (pt_not (pt_val (pe_call GP hr rfl AP.g AP.k AP.b .nil pass0 (pa_cons (pv 1) pa_nil)))) (pss_one (ps_ret (pe_lst (pa_cons pe_str (pa_cons (pe_callB (call_reprD gd hu) (by rfl) R.rep (by decide +kernel) (pa_cons (pv 1) pa_nil)) pa_nil))))) pss_nil)
      (pss_cons (ps_if (pt_cmpR op_eq (pv 0) pe_int (nomark _))
        (pss_cons (ps_if (pt_not (pt_val (pe_call GL hr1 rfl AL.g AL.k AL.b .nil pass0 (pa_cons (pv 2) pa_nil)))) (pss_one (ps_ret (pe_lst (pa_cons pe_str (pa_cons (pe_callB (call_reprD gd hu) (by rfl) R.rep (by decide +kernel) (pa_cons (pv 2) pa_nil)) pa_nil))))) pss_nil)
        (pss_cons (ps_set (i := 3) scDu.nd rfl (Or.inl rfl) (pe_op op_sub (pe_op op_add (pe_ix ix_tup (pv 1) pe_int (fun _ _ => rfl)) (pe_callTy call_int1 (by rfl) T.int (by decide +kernel) (pa_cons (pe_cmpR op_eq (pv 2) pe_str (nomark _)) pa_nil))) (pe_callTy call_int1 (by rfl) T.int (by decide +kernel) (pa_cons (pe_cmpR op_eq (pv 2) pe_str (nomark _)) pa_nil))))
        (pss_cons (ps_set (i := 4) scDu.nd rfl (Or.inl rfl) (pe_tup (pa_cons (pv 3) (pa_cons (pe_op op_sub (pe_op op_add (pe_ix ix_tup (pv 1) pe_int (fun _ _ => rfl)) (pe_callTy call_int1 (by rfl) T.int (by decide +kernel) (pa_cons (pe_cmpR op_eq (pv 2) pe_str (nomark _)) pa_nil))) (pe_callTy call_int1 (by rfl) T.int (by decide +kernel) (pa_cons (pe_cmpR op_eq (pv 2) pe_str (nomark _)) pa_nil))) pa_nil))))
        (pss_one (ps_ret (pe_lst (pa_cons pe_str (pa_cons (pe_callB (call_reprD gd hu) (by rfl) R.rep (by decide +kernel) (pa_cons (pe_ifExp (pt_val (pe_call GP hr rfl AP.g AP.k AP.b .nil pass0 (pa_cons (pv 4) pa_nil))) (pv 4) pe_non) pa_nil)) pa_nil)))))))) pss_nil)
      (pss_cons (ps_if (pt_not (pt_val (pe_call GP hr rfl AP.g AP.k AP.b .nil pass0 (pa_cons (pv 2) pa_nil)))) (pss_one (ps_ret (pe_lst (pa_cons pe_str (pa_cons (pe_callB (call_reprD gd hu) (by rfl) R.rep (by decide +kernel) (pa_cons (pv 2) pa_nil)) pa_nil))))) pss_nil)
      (pss_cons (ps_if (pt_not (pt_val (pe_call GN hr1 rfl AN.g AN.k AN.b .nil pass0 (pa_cons (pv 1) (pa_cons (pv 2) pa_nil))))) (pss_one (ps_ret (pe_lst (pa_cons pe_str (pa_cons (pe_callB (call_reprD gd hu) (by rfl) R.rep (by decide +kernel) (pa_cons (pe_tup (pa_cons (pv 1) (pa_cons (pv 2) pa_nil))) pa_nil)) pa_nil))))) pss_nil)
      (pss_cons (ps_if (pt_cmpR op_eq (pv 0) pe_int (nomark _)) (pss_one (ps_ret (pe_lst (pa_cons pe_str (pa_cons (pe_callB (call_reprD gd hu) (by rfl) R.rep (by decide +kernel)
          (pa_cons (pe_tup (pa_cons (pe_callB (cr_minP rfl hu) (by rfl) M.min (by decide +kernel) (pa_cons (pe_lst (pa_cons (pv 1) (pa_cons (pv 2) pa_nil))) pa_nil)) (pa_cons (pe_callB (cr_maxP rfl hu) (by rfl) M.max (by decide +kernel) (pa_cons (pe_lst (pa_cons (pv 1) (pa_cons (pv 2) pa_nil))) pa_nil)) pa_nil))) pa_nil)) pa_nil))))) pss_nil)
      (pss_cons (ps_if (pt_cmpR op_ne (pe_ix ix_tup (pv 1) pe_int (fun _ _ => rfl)) (pe_ix ix_tup (pv 2) pe_int (fun _ _ => rfl)) (nomark _)) (pss_one (ps_ret (pe_lst (pa_cons pe_str (pa_cons (pe_callB (call_reprD gd hu) (by rfl) R.rep (by decide +kernel)
          (pa_cons (pe_ix ix_list (pe_lst (pa_cons pe_str (pa_cons pe_str pa_nil))) (pe_callTy call_int1 (by rfl) T.int (by decide +kernel) (pa_cons (pe_cmpR op_gt (pe_ix ix_tup (pv 2) pe_int (fun _ _ => rfl)) (pe_ix ix_tup (pv 1) pe_int (fun _ _ => rfl)) (nomark _)) pa_nil)) (fun _ _ => rfl)) pa_nil)) pa_nil))))) pss_nil)
      (pss_one (ps_ret (pe_lst (pa_cons pe_str (pa_cons (pe_callB (call_reprD gd hu) (by rfl) R.rep (by decide +kernel)
          (pa_cons (pe_ix ix_list (pe_lst (pa_cons pe_str (pa_cons pe_str pa_nil))) (pe_callTy call_int1 (by rfl) T.int (by decide +kernel) (pa_cons (pe_cmpR op_gt (pe_ix ix_tup (pv 2) pe_int (fun _ _ => rfl)) (pe_ix ix_tup (pv 1) pe_int (fun _ _ => rfl)) (nomark _)) pa_nil)) (fun _ _ => rfl)) pa_nil)) pa_nil))))))))))), ?_⟩
    have fin : ∀ {t : Str} {y : V} {x : PyData} {H1 : Hp}, Same H H1 → DV H1 y x → dat (resR k d e) = x → tg (resR k d e) = t → ∃ v' d', [y] = [v'] ∧ DV H1 v' d' ∧ Nice d' ∧ (2 ≤ sizeLine ∧ ∀ p, H1 p = none → Q (.ref p) (upd H1 p (.lst [.str t, .str d'.shown]))) := by
      intro t y x H1 s1 hy ex et
      have nx : Nice x := by rw [← ex]; exact nr
      refine ⟨y, x, rfl, hy, nx, (by decide), fun p hp => q p _ (fun b o e => stay (s1 b o e) hp) ?_⟩
      rw [upd_same, ex, et]
    refine ⟨_, rfl, rfl, _, rfl, kcase (j := 3) (fun e0 => ?_) (fun n0 => ?_)⟩
    · subst e0
      refine ⟨_, rfl, v, d, rfl, dv, td, fun H1 s1 => ⟨_, rfl, ?_⟩⟩
      have er : resR 3 d e = if dirB d = true then .ret (oppV d) else .exc 0 d := rfl
      cases e1 : dirB d with
      | false =>
        rw [e1, if_neg Bool.false_ne_true] at er
        exact ⟨_, rfl, fin s1 (dv.more s1) (by rw [er]; rfl) (by rw [er]; rfl)⟩
      | true =>
        rw [e1, if_pos rfl] at er
        obtain ⟨z, rfl, hz⟩ := str_of e1
        rw [dv_str dv]
        rcases dir_cases hz with rfl | rfl | rfl | rfl
        · exact ⟨rfl, _, rfl, _, _, 0, [], rfl, rfl, by decide +kernel, _, _, _, rfl, rfl, by decide, rfl, fin s1 (.str _) (by rw [er]; rfl) (by rw [er]; rfl)⟩
        · exact ⟨rfl, _, rfl, _, _, 1, [], rfl, rfl, by decide +kernel, _, _, _, rfl, rfl, by decide, rfl, fin s1 (.str _) (by rw [er]; rfl) (by rw [er]; rfl)⟩
        · exact ⟨rfl, _, rfl, _, _, 2, [], rfl, rfl, by decide +kernel, _, _, _, rfl, rfl, by decide, rfl, fin s1 (.str _) (by rw [er]; rfl) (by rw [er]; rfl)⟩
        · exact ⟨rfl, _, rfl, _, _, 3, [], rfl, rfl, by decide +kernel, _, _, _, rfl, rfl, by decide, rfl, fin s1 (.str _) (by rw [er]; rfl) (by rw [er]; rfl)⟩
    refine ⟨_, rfl, v, d, rfl, dv, fun H1 s1 => ⟨_, rfl, ?_⟩⟩
    cases e1 : ptB d with
    | false =>
      have er : resR k d e = .exc 1 d := by
        have kk : k = 0 ∨ k = 1 ∨ k = 2 := by omega
        have no : ¬ ptB d = true := by rw [e1]; exact Bool.false_ne_true
        have db : dbR d e = .exc 1 d := if_neg no
        rcases kk with rfl | rfl | rfl
        · exact if_neg no
        · exact db
        · show ebR d e = _
          unfold ebR
          rw [db]
      exact ⟨_, rfl, fin s1 (dv.more s1) (by rw [er]; rfl) (by rw [er]; rfl)⟩
    | true =>
      refine ⟨_, rfl, rfl, _, rfl, kcase (j := 0) (fun e0 => ?_) (fun n1 => ?_)⟩
      · subst e0
        have er : resR 0 d e = if dirB e = true then .ret (besideV d e) else .exc 0 e := if_pos e1
        refine ⟨_, rfl, u, e, rfl, du.more s1, te, fun H2 s2 => ⟨_, rfl, ?_⟩⟩
        have s12 := same_tr s1 s2
        cases e2 : dirB e with
        | false =>
          rw [e2, if_neg Bool.false_ne_true] at er
          exact ⟨_, rfl, fin s12 (du.more s12) (by rw [er]; rfl) (by rw [er]; rfl)⟩
        | true =>
          rw [e2, if_pos rfl] at er
          obtain ⟨z, rfl, hz⟩ := str_of e2
          obtain ⟨i, j, rfl, b1⟩ := pt_of e1
          obtain ⟨a, rfl, ha⟩ := dv_pt (dv.more s12)
          rw [dv_str du]
          refine ⟨_, rfl, a, _, _, .int i, rfl, rfl, sqt ha, rfl, _, rfl, rfl, .inr ⟨_, rfl, _, _, rfl, rfl, _, rfl, rfl, .inr ⟨_, rfl, _, _, rfl, rfl, ?_⟩⟩⟩
          refine ⟨_, rfl, _, rfl, a, _, _, .int j, rfl, rfl, sqt ha, rfl, _, rfl, rfl, .inr ⟨_, rfl, _, _, rfl, rfl, _, rfl, rfl, .inr ⟨_, rfl, _, _, rfl, rfl, (by show 2 ≤ sizeLine; decide), fun p hp => ?_⟩⟩⟩
          have ex : i + (if decide (V.str z = V.str "r") = true then 1 else 0) - (if decide (V.str z = V.str "l") = true then 1 else 0) = i + sx (.str z) := by
            rcases dir_cases hz with rfl | rfl | rfl | rfl
            · exact (by omega : i + 1 - 0 = i + 1)
            · exact (by omega : i + 0 - 0 = i + 0)
            · exact (by omega : i + 0 - 1 = i + -1)
            · exact (by omega : i + 0 - 0 = i + 0)
          have ey : j + (if decide (V.str z = V.str "u") = true then 1 else 0) - (if decide (V.str z = V.str "d") = true then 1 else 0) = j + sy (.str z) := by
            rcases dir_cases hz with rfl | rfl | rfl | rfl
            · exact (by omega : j + 0 - 0 = j + 0)
            · exact (by omega : j + 1 - 0 = j + 1)
            · exact (by omega : j + 0 - 0 = j + 0)
            · exact (by omega : j + 0 - 1 = j + -1)
          have dg : DV (upd H2 p (.tup [.int (i + (if decide (V.str z = V.str "r") = true then 1 else 0) - (if decide (V.str z = V.str "l") = true then 1 else 0)), .int (j + (if decide (V.str z = V.str "u") = true then 1 else 0) - (if decide (V.str z = V.str "d") = true then 1 else 0))])) (.ref p) (goTo (.tuple [.int i, .int j]) (.str z)) := by
            refine .tup upd_same (.cons ?_ (.cons ?_ .nil))
            · rw [ex]
              exact .int _
            · rw [ey]
              exact .int _
          refine ⟨_, rfl, .ref p, _, rfl, dg, fun H3 s3 => ⟨_, rfl, ?_⟩⟩
          have s13 : Same H H3 := fun b o e => s3 b o (stay (s12 b o e) hp)
          cases e3 : ptB (goTo (.tuple [.int i, .int j]) (.str z)) with
          | true => exact ⟨_, rfl, fin s13 (dg.more s3) (by rw [er]; exact if_pos e3) (by rw [er]; rfl)⟩
          | false => exact fin s13 .non (by rw [er]; exact if_neg (by rw [e3]; exact Bool.false_ne_true)) (by rw [er]; rfl)
      · have kk : k = 1 ∨ k = 2 := by omega
        refine ⟨_, rfl, u, e, rfl, du.more s1, fun H2 s2 => ⟨_, rfl, ?_⟩⟩
        have s12 := same_tr s1 s2
        cases e2 : ptB e with
        | false =>
          have no : ¬ ptB e = true := by rw [e2]; exact Bool.false_ne_true
          have db : dbR d e = .exc 1 e := (if_pos e1).trans (if_neg no)
          have er : resR k d e = .exc 1 e := by
            rcases kk with rfl | rfl
            · exact db
            · show ebR d e = _
              unfold ebR
              rw [db]
          exact ⟨_, rfl, fin s12 (du.more s12) (by rw [er]; rfl) (by rw [er]; rfl)⟩
        | true =>
          obtain ⟨i, j, rfl, b1⟩ := pt_of e1
          obtain ⟨x, l, rfl, b2⟩ := pt_of e2
          have dv2 := dv.more s12
          have du2 := du.more s12
          have fst := first_is b1 b2
          have db0 : dbR (.tuple [.int i, .int j]) (.tuple [.int x, .int l]) = firstDir (.tuple [.int i, .int j]) (.tuple [.int x, .int l]) letters := (if_pos e1).trans (if_pos e2)
          refine ⟨_, rfl, _, rfl, v, u, i, j, x, l, rfl, dv2, du2, b1, b2, _, rfl, ?_⟩
          by_cases nr1 : (i - x) ^ 2 + (j - l) ^ 2 = 1
          · rw [if_pos nr1] at fst
            have db := db0.trans fst
            rw [decide_eq_true nr1]
            refine ⟨_, rfl, rfl, _, rfl, kcase (j := 2) (fun e0 => ?_) (fun n2 => ?_)⟩
            · subst e0
              have er : resR 2 (.tuple [.int i, .int j]) (.tuple [.int x, .int l]) = _ := eb_is b1 b2 nr1 db
              have dp : PyData.depthAll [.tuple [.int i, .int j], .tuple [.int x, .int l]] ≤ 60 := by
                show max (max 0 (max 0 0) + 1) (max (max 0 (max 0 0) + 1) 0) ≤ 60
                decide
              refine ⟨_, rfl, _, rfl, (by show 2 ≤ sizeLine; decide), fun p hp => ⟨p, v, u, _, _, rfl, SqL.of upd_same, dv_dp (dv2.more fun b o e => stay e hp) rfl, dv_dp (du2.more fun b o e => stay e hp) rfl, alike_ii _ _ _ _, lay_ii _ _, lay_ii _ _, dp, fun m hm => ?_⟩⟩
              have s3 : Same H (upd H2 p (.lst [v, u])) := fun b o e => stay (s12 b o e) hp
              refine ⟨_, rfl, _, rfl, (by show 2 ≤ sizeLine; decide), fun p2 hp2 => ⟨p2, v, u, _, _, rfl, SqL.of upd_same, dv_dp ((dv.more s3).more fun b o e => stay e hp2) rfl, dv_dp ((du.more s3).more fun b o e => stay e hp2) rfl, alike_ii _ _ _ _, lay_ii _ _, lay_ii _ _, dp, fun m2 hm2 => ?_⟩⟩
              have s4 : Same H (upd (upd H2 p (.lst [v, u])) p2 (.lst [v, u])) := fun b o e => stay (s3 b o e) hp2
              refine ⟨(by show 2 ≤ sizeLine; decide), fun p3 hp3 => ?_⟩
              have s5 : Same H (upd (upd (upd H2 p (.lst [v, u])) p2 (.lst [v, u])) p3 (.tup [m, m2])) := fun b o e => stay (s4 b o e) hp3
              refine fin s5 (.tup upd_same (.cons ?_ (.cons ?_ .nil))) (by rw [er]; rfl) (by rw [er]; rfl)
              · rcases hm with ⟨rfl, h⟩ | ⟨rfl, h⟩
                · rw [h]
                  exact dv.more s5
                · rw [h]
                  exact du.more s5
              · rcases hm2 with ⟨rfl, h⟩ | ⟨rfl, h⟩
                · rw [h]
                  exact dv.more s5
                · rw [h]
                  exact du.more s5
            · have k1 : k = 1 := by omega
              subst k1
              have er : resR 1 (.tuple [.int i, .int j]) (.tuple [.int x, .int l]) = _ := db
              obtain ⟨a, rfl, ha⟩ := dv_pt dv2
              obtain ⟨b, rfl, hb⟩ := dv_pt du2
              refine ⟨_, rfl, a, _, _, .int i, rfl, rfl, sqt ha, rfl, _, rfl, b, _, _, .int x, rfl, rfl, sqt hb, rfl, rfl, _, rfl, ?_⟩
              by_cases c1 : i = x
              · rw [decide_eq_true (by rw [c1] : V.int i = V.int x)]
                refine ⟨(by show 2 ≤ sizeLine; decide), fun p hp => ⟨_, rfl, b, _, _, .int l, rfl, rfl, sqt (stay hb hp), rfl, _, rfl, a, _, _, .int j, rfl, rfl, sqt (stay ha hp), rfl, _, _, rfl, rfl, .inr ⟨_, rfl, p, _, _, .str (dirStr i j x l), rfl, rfl, SqL.of upd_same, ?_, fin (fun b o e => stay (s12 b o e) hp) (.str _) (by rw [er]; rfl) (by rw [er]; rfl)⟩⟩⟩
                have no : ¬ i ≠ x := fun h => h c1
                unfold dirStr
                rw [if_neg no]
                by_cases c2 : j < l
                · rw [decide_eq_true c2, if_pos c2]
                  rfl
                · rw [decide_eq_false c2, if_neg c2]
                  rfl
              · rw [decide_eq_false (fun z => c1 (V.int.inj z) : ¬ V.int i = V.int x)]
                refine ⟨(by show 2 ≤ sizeLine; decide), fun p hp => ⟨_, rfl, b, _, _, .int x, rfl, rfl, sqt (stay hb hp), rfl, _, rfl, a, _, _, .int i, rfl, rfl, sqt (stay ha hp), rfl, _, _, rfl, rfl, .inr ⟨_, rfl, p, _, _, .str (dirStr i j x l), rfl, rfl, SqL.of upd_same, ?_, fin (fun b o e => stay (s12 b o e) hp) (.str _) (by rw [er]; rfl) (by rw [er]; rfl)⟩⟩⟩
                unfold dirStr
                rw [if_pos c1]
                by_cases c2 : i < x
                · rw [decide_eq_true c2, if_pos c2]
                  rfl
                · rw [decide_eq_false c2, if_neg c2]
                  rfl
          · rw [if_neg nr1] at fst
            have db := db0.trans fst
            have er : resR k (.tuple [.int i, .int j]) (.tuple [.int x, .int l]) = .exc 2 (.tuple [.tuple [.int i, .int j], .tuple [.int x, .int l]]) := by
              rcases kk with rfl | rfl
              · exact db
              · show ebR _ _ = _
                unfold ebR
                rw [db]
            rw [decide_eq_false nr1]
            exact ⟨_, rfl, _, rfl, (by show 2 ≤ sizeLine; decide), fun p hp => fin (fun b o e => stay (s12 b o e) hp) (.tup upd_same (.cons (dv2.more fun b o e => stay e hp) (.cons (du2.more fun b o e => stay e hp) .nil))) (by rw [er]; rfl) (by rw [er]; rfl)⟩
end
end K1
set_option Elab.async false
set_option linter.all false
set_option maxRecDepth 100000
set_option maxHeartbeats 16000000
namespace K1
open PySem PySem.Spec PyProof.Rows L2 Nv
/-! ### small data are nice -/
mutual
def okD : PyData → Prop
  | .none => True
  | .bool _ => True
  | .int i => i.natAbs < 10 ^ 40
  | .str x => x.length ≤ 100 ∧ ∀ c ∈ x.cps.toList, c < 200
  | .list l => okDs l
  | .tuple l => okDs l
  | .dict l => l = []
def okDs : List PyData → Prop
  | [] => True
  | x :: r => okD x ∧ okDs r
end
mutual
def cap : PyData → Nat
  | .none => 4
  | .bool _ => 5
  | .int _ => 41
  | .str _ => 1002
  | .list l => caps l + 2
  | .tuple l => caps l + 3
  | .dict _ => 2
def caps : List PyData → Nat
  | [] => 0
  | x :: r => cap x + 2 + caps r
end
theorem piled_c (t : Str) (r : List Str) : piled (t :: r) = t.length + 2 + piled r := by simp [piled]
mutual
theorem shown_le : ∀ d : PyData, okD d → d.shown.length ≤ cap d
  | .none, _ => by show _ ≤ 4; decide
  | .bool b, _ => by cases b <;> (show _ ≤ 5; decide)
  | .int i, h => intText_le (by simpa [okD] using h)
  | .str x, h => by
    have h2 : x.length ≤ 100 ∧ ∀ c ∈ x.cps.toList, c < 200 := by simpa [okD] using h
    have := reprText_le (t := x) (by omega) h2.2
    show (reprText x).length ≤ 1002
    omega
  | .list l, h => by
    have h2 : okDs l := by simpa [okD] using h
    have a := listText_le (PyData.shownAll l)
    have b := showns_le l h2
    show (listText (PyData.shownAll l)).length ≤ caps l + 2
    omega
  | .tuple l, h => by
    have h2 : okDs l := by simpa [okD] using h
    have a := tupleText_le (PyData.shownAll l)
    have b := showns_le l h2
    show (tupleText (PyData.shownAll l)).length ≤ caps l + 3
    omega
  | .dict l, h => by
    have h2 : l = [] := by simpa [okD] using h
    subst h2
    show _ ≤ 2
    decide
theorem showns_le : ∀ l : List PyData, okDs l → piled (PyData.shownAll l) ≤ caps l
  | [], _ => by show piled [] ≤ 0; decide
  | x :: r, h => by
    have h2 : okD x ∧ okDs r := by simpa [okDs] using h
    have a := shown_le x h2.1
    have b := showns_le r h2.2
    show piled (x.shown :: PyData.shownAll r) ≤ cap x + 2 + caps r
    rw [piled_c]
    omega
end
mutual
theorem shows_of : ∀ d : PyData, okD d → d.showable = true
  | .none, _ => rfl
  | .bool b, _ => (nice_bl b).shows
  | .int i, h => (nice_int (by simpa [okD] using h)).shows
  | .str x, h => by
    have h2 : x.length ≤ 100 ∧ ∀ c ∈ x.cps.toList, c < 200 := by simpa [okD] using h
    exact (nice_str (by omega) h2.2).shows
  | .list l, h => show_all l (by simpa [okD] using h)
  | .tuple l, h => show_all l (by simpa [okD] using h)
  | .dict l, h => by
    have h2 : l = [] := by simpa [okD] using h
    subst h2
    rfl
theorem show_all : ∀ l : List PyData, okDs l → PyData.showableAll l = true
  | [], _ => rfl
  | x :: r, h => by
    have h2 : okD x ∧ okDs r := by simpa [okDs] using h
    show (x.showable && PyData.showableAll r) = true
    rw [shows_of x h2.1, show_all r h2.2]
    rfl
end
structure Gd (d : PyData) : Prop where
  ok : okD d
  deep : d.depth ≤ 10
  cap : cap d ≤ 100000
  dic : d.hasDict = true → d = .dict []
theorem Gd.nice {d : PyData} (g : Gd d) : Nice d := ⟨shows_of d g.ok, by have := g.deep; omega, Nat.le_trans (shown_le d g.ok) (Nat.le_trans g.cap (by decide)), g.dic⟩
mutual
theorem lay_of : ∀ d : PyData, okD d → d.hasDict = false → d.canLay0 = true
  | .none, _, _ => by simp only [PyData.canLay0]
  | .bool _, _, _ => by simp only [PyData.canLay0]
  | .int _, _, _ => by simp only [PyData.canLay0]
  | .str x, h, _ => by
    have h2 : x.length ≤ 100 ∧ ∀ c ∈ x.cps.toList, c < 200 := by simpa [okD] using h
    have : PyData.strOk x = true := by
      show x.cps.all (· < 0x110000) = true
      rw [Array.all_eq_true']
      intro c hc
      have := h2.2 c (Array.mem_toList_iff.mpr hc)
      exact decide_eq_true (by omega)
    simpa only [PyData.canLay0] using this
  | .list l, h, n => by
    have := lays_of l (by simpa [okD] using h) (by simpa [PyData.hasDict] using n)
    simpa only [PyData.canLay0] using this
  | .tuple l, h, n => by
    have := lays_of l (by simpa [okD] using h) (by simpa [PyData.hasDict] using n)
    simpa only [PyData.canLay0] using this
  | .dict l, h, n => by simp [PyData.hasDict] at n
theorem lays_of : ∀ l : List PyData, okDs l → PyData.hasDictAll l = false → PyData.canLayAll0 l = true
  | [], _, _ => by simp only [PyData.canLayAll0]
  | x :: r, h, n => by
    have h2 : okD x ∧ okDs r := by simpa [okDs] using h
    have n2 : x.hasDict = false ∧ PyData.hasDictAll r = false := by simpa [PyData.hasDictAll] using n
    simp only [PyData.canLayAll0, lay_of x h2.1 n2.1, lays_of r h2.2 n2.2, Bool.and_self]
end
theorem Gd.flat {d : PyData} (g : Gd d) : flatP d := by
  rintro p r rfl
  have n : (PyData.tuple [p, r]).hasDict = false := by
    cases e : (PyData.tuple [p, r]).hasDict with
    | false => rfl
    | true => cases g.dic e
  have n2 : p.hasDict = false ∧ r.hasDict = false := by simpa [PyData.hasDict, PyData.hasDictAll] using n
  have o : okD p ∧ okD r := by simpa [okD, okDs] using g.ok
  have dp : max p.depth (max r.depth 0) + 1 ≤ 10 := g.deep
  refine ⟨n2.2, ?_⟩
  show (r.canLay0 && decide (r.depth ≤ 64)) = true
  rw [lay_of r o.2 n2.2, decide_eq_true (by omega)]
  rfl
theorem Gd.txt {d : PyData} (g : Gd d) : ∀ z, d = .str z → PyData.strOk z = true := by
  rintro z rfl
  have h2 : z.length ≤ 100 ∧ ∀ c ∈ z.cps.toList, c < 200 := by simpa [okD] using g.ok
  show z.cps.all (· < 0x110000) = true
  rw [Array.all_eq_true']
  intro c hc
  have := h2.2 c (Array.mem_toList_iff.mpr hc)
  exact decide_eq_true (by omega)
theorem gd_ii {i j : Int} (hi : i.natAbs ≤ 1000) (hj : j.natAbs ≤ 1000) : Gd (.tuple [.int i, .int j]) := by
  have b : ∀ {i : Int}, i.natAbs ≤ 1000 → i.natAbs < 10 ^ 40 := fun h => Nat.lt_of_le_of_lt h (by decide)
  refine ⟨?_, by show max 0 (max 0 0) + 1 ≤ 10; decide, by show 41 + 2 + (41 + 2 + 0) + 3 ≤ 100000; decide, fun h => ?_⟩
  · simp only [okD, okDs]
    exact ⟨b hi, b hj, trivial⟩
  · cases h
theorem gd_pt {d : PyData} (h : ptB d = true) : Gd d := by
  obtain ⟨i, j, rfl, b⟩ := pt_of h
  exact gd_ii (by omega) (by omega)
theorem gd_pp {d e : PyData} (h : ptB d = true) (h2 : ptB e = true) : Gd (.tuple [d, e]) := by
  obtain ⟨i, j, rfl, b⟩ := pt_of h
  obtain ⟨k, l, rfl, b⟩ := pt_of h2
  have bb : ∀ {i : Int}, i.natAbs ≤ 1000 → i.natAbs < 10 ^ 40 := fun h => Nat.lt_of_le_of_lt h (by decide)
  refine ⟨?_, by show max (max 0 (max 0 0) + 1) (max (max 0 (max 0 0) + 1) 0) + 1 ≤ 10; decide, by show (41 + 2 + (41 + 2 + 0) + 3) + 2 + ((41 + 2 + (41 + 2 + 0) + 3) + 2 + 0) + 3 ≤ 100000; decide, fun h => by cases h⟩
  simp only [okD, okDs]
  exact ⟨⟨bb (by omega), bb (by omega), trivial⟩, ⟨bb (by omega), bb (by omega), trivial⟩, trivial⟩
theorem gd_dir {s : Str} (h : dirOf s = true) : Gd (.str s) := by
  rcases dir_cases h with rfl | rfl | rfl | rfl
  all_goals
    refine ⟨?_, by decide, by decide, fun h => by cases h⟩
    simp only [okD]
    exact ⟨by decide, by decide⟩
theorem gd_non : Gd .none := ⟨trivial, by decide, by decide, fun h => by cases h⟩
theorem gd_opp {d : PyData} (h : dirB d = true) : Gd (oppV d) := by
  obtain ⟨s, rfl, hs⟩ := str_of h
  rcases dir_cases hs with rfl | rfl | rfl | rfl
  · exact gd_dir (s := "l") rfl
  · exact gd_dir (s := "d") rfl
  · exact gd_dir (s := "r") rfl
  · exact gd_dir (s := "u") rfl
theorem gd_bes (d e : PyData) : Gd (besideV d e) := by
  unfold besideV
  by_cases h : ptB (goTo d e) = true
  · rw [if_pos h]
    exact gd_pt h
  · rw [if_neg h]
    exact gd_non
theorem gd_db {d e : PyData} (gd : Gd d) (ge : Gd e) : Gd (dat (dbR d e)) ∧ (∀ x, dbR d e = .ret x → ptB d = true ∧ ptB e = true) := by
  unfold dbR
  by_cases c1 : ptB d = true
  · rw [if_pos c1]
    by_cases c2 : ptB e = true
    · rw [if_pos c2]
      refine ⟨?_, fun _ _ => ⟨c1, c2⟩⟩
      have go : ∀ l : List Str, (∀ s ∈ l, dirOf s = true) → Gd (dat (firstDir d e l)) := by
        intro l
        induction l with
        | nil => exact fun _ => gd_pp c1 c2
        | cons s r ih =>
          intro hl
          unfold firstDir
          by_cases c : PyData.eqv (besideV d (.str s)) e = true
          · rw [if_pos c]
            exact gd_dir (hl s List.mem_cons_self)
          · rw [if_neg c]
            exact ih fun x hx => hl x (List.mem_cons_of_mem _ hx)
      refine go _ fun s hs => ?_
      unfold letters at hs
      simp only [List.mem_cons, List.not_mem_nil, or_false] at hs
      rcases hs with rfl | rfl | rfl | rfl <;> rfl
    · rw [if_neg c2]
      exact ⟨ge, fun _ h => by cases h⟩
  · rw [if_neg c1]
    exact ⟨gd, fun _ h => by cases h⟩
theorem gd_res (k : Nat) {d e : PyData} (gd : Gd d) (ge : Gd e) : Gd (dat (resR k d e)) := by
  unfold resR
  split
  · unfold besideR
    by_cases c1 : ptB d = true
    · rw [if_pos c1]
      by_cases c2 : dirB e = true
      · rw [if_pos c2]
        exact gd_bes d e
      · rw [if_neg c2]
        exact ge
    · rw [if_neg c1]
      exact gd
  · exact (gd_db gd ge).1
  · have h := gd_db gd ge
    unfold ebR
    split
    · rename_i y z hz
      obtain ⟨c1, c2⟩ := h.2 z hz
      by_cases c : ([PyData.str "r", .str "u"].any fun y => PyData.eqv y z) = true
      · rw [if_pos c]
        exact gd_pp c1 c2
      · rw [if_neg c]
        exact gd_pp c2 c1
    · rename_i c z hz
      have h1 := h.1
      rw [hz] at h1
      exact h1
  · unfold oppR
    by_cases c : dirB d = true
    · rw [if_pos c]
      exact gd_opp c
    · rw [if_neg c]
      exact gd
end K1
set_option Elab.async false
set_option linter.all false
set_option maxRecDepth 100000
set_option maxHeartbeats 16000000
namespace K1
open PySem PySem.Spec PyProof.Rows L2 Nv
/-! ### data made by displays, the box at p apart -/
section
variable {p : Addr} {H0 : Hp} {σ : L2.St}
theorem same_del {H H' : Hp} (k : Same H H') : Same (del H p) (del H' p) := fun b o e => by
  by_cases h : b = p
  · rw [h, del_same] at e
    cases e
  · rw [del_ne h] at e ⊢
    exact k b o e
theorem del_of {H : Hp} {b : Addr} {o : HO} (e : H b = some o) (n : b ≠ p) : del H p b = some o := by
  rw [del_ne n]
  exact e
theorem of_del {H : Hp} : Same (del H p) H := fun b o e => by
  by_cases h : b = p
  · rw [h, del_same] at e
    cases e
  · rwa [del_ne h] at e
def Mk (p : Addr) (H0 : Hp) (σ : L2.St) (t : TE) (d : PyData) : Prop := ∀ (H : Hp) (Q : VK), Same H0 H → (∀ v H', DV (del H' p) v d → Same H H' → Q v H') → t σ H Q
def Mks (p : Addr) (H0 : Hp) (σ : L2.St) (t : TA) (ds : List PyData) : Prop := ∀ (H : Hp) (Q : List V → Hp → Prop), Same H0 H → (∀ vs H', DVs (del H' p) vs ds → Same H H' → Q vs H') → t σ H Q
theorem mk_int (i : Int) : Mk p H0 σ (tC (.int i)) (.int i) := fun H Q s q => q _ H (.int i) (same0 H)
theorem mk_str (x : Str) : Mk p H0 σ (tC (.str x)) (.str x) := fun H Q s q => q _ H (.str x) (same0 H)
theorem mk_bl (b : Bool) : Mk p H0 σ (tC (.bl b)) (.bool b) := fun H Q s q => q _ H (.bl b) (same0 H)
theorem mk_non : Mk p H0 σ (tC .non) .none := fun H Q s q => q _ H .non (same0 H)
theorem mk_var {i : Nat} {v : V} {d : PyData} (h : σ[i]? = some (some v)) (dv : DV (del H0 p) v d) : Mk p H0 σ (tVar i) d := fun H Q s q => ⟨v, h, q v H (dv.more (same_del s)) (same0 H)⟩
theorem mk_neg {t : TE} {i : Int} (h : Mk p H0 σ t (.int i)) : Mk p H0 σ (tUn (rU fun i => .int (-i)) t) (.int (-i)) := fun H Q s q => h H _ s fun v H' dv s' => ⟨i, dv_int dv, q _ H' (.int _) s'⟩
theorem mk_op {g : Int → Int → Int} {ta tb : TE} {i j : Int} (ha : Mk p H0 σ ta (.int i)) (hb : Mk p H0 σ tb (.int j)) : Mk p H0 σ (tOp (rI0 fun i j => .int (g i j)) ta tb) (.int (g i j)) := fun H Q s q =>
  ha H _ s fun v H1 dv s1 => hb H1 _ (same_tr s s1) fun u H2 du s2 => ⟨i, j, dv_int dv, dv_int du, q _ H2 (.int _) (same_tr s1 s2)⟩
theorem mk_pow {ta tb : TE} {i j : Int} (ha : Mk p H0 σ ta (.int i)) (hb : Mk p H0 σ tb (.int j)) (c : CPow i j) : Mk p H0 σ (tOp (rI CPow fun i j => .int (i ^ j.toNat)) ta tb) (.int (i ^ j.toNat)) := fun H Q s q =>
  ha H _ s fun v H1 dv s1 => hb H1 _ (same_tr s s1) fun u H2 du s2 => ⟨i, j, dv_int dv, dv_int du, c, q _ H2 (.int _) (same_tr s1 s2)⟩
theorem mks_nil : Mks p H0 σ tNil [] := fun H Q s q => q [] H .nil (same0 H)
theorem mks_cons {t : TE} {ts : TA} {d : PyData} {ds : List PyData} (h : Mk p H0 σ t d) (r : Mks p H0 σ ts ds) : Mks p H0 σ (tCons t ts) (d :: ds) := fun H Q s q =>
  h H _ s fun v H1 dv s1 => r H1 _ (same_tr s s1) fun vs H2 dvs s2 => q (v :: vs) H2 (.cons (dv.more (same_del s2)) dvs) (same_tr s1 s2)
variable (hp : ∃ o, H0 p = some o)
include hp
theorem fresh_ne {H : Hp} {a : Addr} (s : Same H0 H) (n : H a = none) : a ≠ p := fun e => by
  obtain ⟨o, h⟩ := hp
  rw [e, s p o h] at n
  cases n
theorem mk_tup {ts : TA} {ds : List PyData} (h : Mks p H0 σ ts ds) (l : ds.length ≤ 1000 := by exact Nat.le_of_ble_eq_true rfl) : Mk p H0 σ (tTup ts) (.tuple ds) := fun H Q s q =>
  h H _ s fun vs H1 dvs s1 => ⟨by rw [dvs.length]; exact Nat.le_trans l (by decide), fun a n => q _ _ (.tup (del_of upd_same (fresh_ne hp (same_tr s s1) n)) (dvs.more (same_del fun b o e => stay e n))) fun b o e => stay (s1 b o e) n⟩
theorem mk_lst {ts : TA} {ds : List PyData} (h : Mks p H0 σ ts ds) (l : ds.length ≤ 1000 := by exact Nat.le_of_ble_eq_true rfl) : Mk p H0 σ (tLst ts) (.list ds) := fun H Q s q =>
  h H _ s fun vs H1 dvs s1 => ⟨by rw [dvs.length]; exact Nat.le_trans l (by decide), fun a n => q _ _ (.lst (del_of upd_same (fresh_ne hp (same_tr s s1) n)) (dvs.more (same_del fun b o e => stay e n))) fun b o e => stay (s1 b o e) n⟩
theorem mk_dict : Mk p H0 σ tDNewK (.dict []) := fun H Q s q => fun a n => q _ _ (.emp (del_of upd_same (fresh_ne hp s n))) fun b o e => stay e n
omit hp in
theorem dv_lst {H : Hp} {v : V} {ds : List PyData} (h : DV H v (.list ds)) : ∃ a xs, v = .ref a ∧ H a = some (.lst xs) ∧ DVs H xs ds := by
  cases h with
  | lst h r => exact ⟨_, _, rfl, h, r⟩
omit hp in
theorem dvs_app {H : Hp} : ∀ {xs ys : List V} {ds es : List PyData}, DVs H xs ds → DVs H ys es → DVs H (xs ++ ys) (ds ++ es)
  | _, _, _, _, .nil, r => r
  | _, _, _, _, .cons h q, r => .cons h (dvs_app q r)
theorem mk_cat {ta tb : TE} {ds es : List PyData} (ha : Mk p H0 σ ta (.list ds)) (hb : Mk p H0 σ tb (.list es)) (l : ds.length + es.length ≤ 1000) : Mk p H0 σ (tOp rCat ta tb) (.list (ds ++ es)) := fun H Q s q =>
  ha H _ s fun v H1 dv s1 => hb H1 _ (same_tr s s1) fun u H2 du s2 => by
    obtain ⟨a, xs, rfl, ha, rx⟩ := dv_lst (dv.more (same_del s2))
    obtain ⟨b, ys, rfl, hb, ry⟩ := dv_lst du
    refine ⟨a, b, xs, ys, rfl, rfl, of_del _ _ ha, of_del _ _ hb, ?_, fun c n => ?_⟩
    · rw [rx.length, ry.length]
      exact Nat.le_trans l (by decide)
    · exact q _ _ (.lst (del_of upd_same (fresh_ne hp (same_tr s (same_tr s1 s2)) n)) ((dvs_app rx ry).more (same_del fun b o e => stay e n))) fun b o e => stay (same_tr s1 s2 b o e) n
end
theorem mk_text {p : Addr} {H0 : Hp} {σ : L2.St} {t : TA} {i : Int} (h : Mks p H0 σ t [.int i]) (c : i.natAbs.log2 < 1920) : Mk p H0 σ (tCB (fun xs H Q => ∃ i, xs = [.int i] ∧ i.natAbs.log2 < 1920 ∧ Q (.str (toString i)) H) t) (.str (toString i)) := fun H Q s q =>
  h H _ s fun vs H1 dvs s1 => by
    cases dvs with
    | cons h1 r =>
      cases r
      exact ⟨i, by rw [dv_int h1], c, q _ H1 (.str _) s1⟩
section
variable {P : Program} {w : World} {K : PySem.W.Frag} {mg : Str → Option Value} {base : Heap}
theorem BoxAt.le {H : Hp} {p : Addr} {m m' : Int} (h : BoxAt H p m) (le : m ≤ m') : BoxAt H p m' := by
  obtain ⟨b0, b1, b2, h1, h2, h3, h4, h5⟩ := h
  exact ⟨b0, b1, b2, h1, h2, h3, h4, by omega⟩
theorem BoxAt.more {H H' : Hp} {p : Addr} {m : Int} (k : Same H H') (h : BoxAt H p m) : BoxAt H' p m := by
  obtain ⟨b0, b1, b2, h1, h2⟩ := h
  exact ⟨b0, b1, b2, k _ _ h1, h2⟩
theorem BoxAt.some {H : Hp} {p : Addr} {m : Int} (h : BoxAt H p m) : ∃ o, H p = some o := by
  obtain ⟨b0, b1, b2, h1, h2⟩ := h
  exact ⟨_, h1⟩
theorem but_del {H H' : Hp} {p : Addr} (k : But p H H') : Same (del H p) (del H' p) := fun b o e => by
  by_cases h : b = p
  · rw [h, del_same] at e
    cases e
  · rw [del_ne h] at e ⊢
    exact k b o h e
def spVal : Sp := fun vs H Q _ => ∃ (p : Addr) (m : Int), vs = [.ref p] ∧ BoxAt H p m ∧ m ≤ 100000 ∧ ∀ (L : Addr) (xs : List V) (ds : List PyData) (H' : Hp), 2 ≤ ds.length → ds.length ≤ 100 → (∀ d ∈ ds, Gd d) → del H' p L = some (.lst xs) → DVs (del H' p) xs ds → BoxAt H' p (m + 10) → Same (del H p) (del H' p) → Q (.ref L) H'
theorem scVal : FnScope ["_law_box_here", "_law_x", "_law_y", "_law_dx", "_law_dy", "_law_one", "_law_other", "_law_some", "_law_far"] ["_law_box_here"] (defScope (top 32)) := ⟨rfl, rfl, rfl, by decide +kernel, rfl, by decide +kernel, by decide +kernel⟩
end
end K1
set_option Elab.async false
set_option linter.all false
set_option maxRecDepth 100000
set_option maxHeartbeats 16000000
namespace K1
open PySem PySem.Spec PyProof.Rows L2 Nv
def allG : List PyData → Prop
  | [] => True
  | d :: r => Gd d ∧ allG r
theorem allG_of : ∀ {l : List PyData}, allG l → ∀ d ∈ l, Gd d
  | [], _, _, h => nomatch h
  | x :: r, h, d, hd => by
    rcases List.mem_cons.mp hd with rfl | hd
    · exact h.1
    · exact allG_of h.2 d hd
theorem allG_app : ∀ {l m : List PyData}, allG l → allG m → allG (l ++ m)
  | [], _, _, h => h
  | x :: r, m, g, h => ⟨g.1, allG_app g.2 h⟩
theorem lt40 {i : Int} (h : i.natAbs ≤ 1000) : i.natAbs < 10 ^ 40 := Nat.lt_of_le_of_lt h (by decide)
theorem txt31 : ∀ x : Fin 31, ((Str.ofString (toString (((x.val : Nat) : Int)))).cps.toList.all (· < 200) && decide ((Str.ofString (toString (((x.val : Nat) : Int)))).length ≤ 100)) = true := by decide +kernel
theorem txt_ok {x : Int} (h0 : 0 ≤ x) (h1 : x ≤ 30) : okD (.str (toString x)) := by
  obtain ⟨n, rfl⟩ : ∃ n : Nat, x = n := ⟨x.toNat, by omega⟩
  have z := txt31 ⟨n, by omega⟩
  rw [Bool.and_eq_true, List.all_eq_true] at z
  exact ⟨of_decide_eq_true z.2, fun c hc => of_decide_eq_true (z.1 c hc)⟩
theorem big29 : ((10 : Int) ^ (29 : Int).toNat).natAbs < 10 ^ 40 := by decide +kernel
theorem big20 : (-((10 : Int) ^ (20 : Int).toNat)).natAbs < 10 ^ 40 := by decide +kernel
theorem cpow : CPow 10 29 := ⟨by decide, by decide, by decide⟩
theorem cpow20 : CPow 10 20 := ⟨by decide, by decide, by decide⟩
theorem goPar {p : Addr} {H0 : Hp} {σ : L2.St} {t : TA} {i j : Nat} {rest : TS} {D : Ends} (h : ∃ ds, Mks p H0 σ t ds ∧ ∀ vs H', DVs (del H' p) vs ds → Same H0 H' → ∃ v w, vs = [v, w] ∧ rest D ((σ.set i (some v)).set j (some w)) H') : tSeq (tPar i j t) rest D σ H0 := by
  obtain ⟨ds, h, q⟩ := h
  exact h H0 _ (same0 H0) q
theorem goSet {p : Addr} {H0 : Hp} {σ : L2.St} {t : TE} {i : Nat} {rest : TS} {D : Ends} (h : ∃ d, Mk p H0 σ t d ∧ ∀ v H', DV (del H' p) v d → Same H0 H' → rest D (σ.set i (some v)) H') : tSeq (tAsg t (gName i)) rest D σ H0 := by
  obtain ⟨ds, h, q⟩ := h
  exact h H0 _ (same0 H0) q
theorem goRet {p : Addr} {H0 : Hp} {σ : L2.St} {t : TE} {D : Ends} (h : ∃ d, Mk p H0 σ t d ∧ ∀ v H', DV (del H' p) v d → Same H0 H' → D.rt v H') : tRet t D σ H0 := by
  obtain ⟨ds, h, q⟩ := h
  exact h H0 _ (same0 H0) q
def bodyV : List Stmt := defBody (top 32)
abbrev XV (P : Program) (w : World) (K : PySem.W.Frag) (mg : Str → Option Value) (base : Heap) (f : Addr) (cdv : Value) (A : Around) (outer : List Env) (s : Shared) (H0 : Hp) (E : XK) : Cx := (cxOf CX0 P w K mg base ["_law_box_here", "_law_x", "_law_y", "_law_dx", "_law_dy", "_law_one", "_law_other", "_law_some", "_law_far"] "_law_values" (defScope (top 32)) f cdv A outer s H0 E).nox
def RetOk (p : Addr) (H0 : Hp) (m : Int) (D : Ends) : Prop := ∀ (L : Addr) (xs : List V) (ds : List PyData) (H' : Hp), 2 ≤ ds.length → ds.length ≤ 100 → (∀ d ∈ ds, Gd d) → del H' p L = some (.lst xs) → DVs (del H' p) xs ds → BoxAt H' p (m + 10) → Same (del H0 p) (del H' p) → D.rt (.ref L) H'
def Tail (X : Cx) (p : Addr) (H0 : Hp) (m : Int) (n : Nat) (R : L2.St → Hp → Prop) : Prop := ∃ t, PSs X (bodyV.drop n) t ∧ ∀ D σ H, R σ H → RetOk p H0 m D → t D σ H
structure Rng (x y dx dy : Int) : Prop where
  x : 0 ≤ x ∧ x ≤ 30
  y : 0 ≤ y ∧ y ≤ 30
  dx : -1 ≤ dx ∧ dx ≤ 1
  dy : -1 ≤ dy ∧ dy ≤ 1
structure Mid (p : Addr) (H0 : Hp) (m k : Int) (x y dx dy : Int) (v5 v6 : V) (H : Hp) : Prop where
  r : Rng x y dx dy
  d5 : DV (del H p) v5 (.tuple [.int x, .int y])
  d6 : DV (del H p) v6 (.tuple [.int (x + dx), .int (y + dy)])
  b : BoxAt H p (m + k)
  s : Same (del H0 p) (del H p)
theorem Mid.more {p : Addr} {H0 : Hp} {m k x y dx dy : Int} {v5 v6 : V} {H H' : Hp} (M : Mid p H0 m k x y dx dy v5 v6 H) (s : Same H H') : Mid p H0 m k x y dx dy v5 v6 H' :=
  ⟨M.r, M.d5.more (same_del s), M.d6.more (same_del s), M.b.more s, same_tr M.s (same_del s)⟩
def R3 (p : Addr) (H0 : Hp) (m : Int) : L2.St → Hp → Prop := fun σ H => ∃ (x y dx dy : Int) (v5 v6 : V), σ = [some (.ref p), some (.int x), some (.int y), some (.int dx), some (.int dy), some v5, some v6, none, none] ∧ Mid p H0 m 6 x y dx dy v5 v6 H
/-- some: a list of n data -/
def Rs7 (p : Addr) (H0 : Hp) (m : Int) (n : Nat) : L2.St → Hp → Prop := fun σ H => ∃ (x y dx dy : Int) (v5 v6 v7 : V) (D : List PyData), σ = [some (.ref p), some (.int x), some (.int y), some (.int dx), some (.int dy), some v5, some v6, some v7, none] ∧ Mid p H0 m 6 x y dx dy v5 v6 H ∧
  DV (del H p) v7 (.list D) ∧ allG D ∧ D.length = n
/-- and far -/
def Rs8 (p : Addr) (H0 : Hp) (m : Int) (n : Nat) : L2.St → Hp → Prop := fun σ H => ∃ (x y dx dy fx fy : Int) (v5 v6 v7 v8 : V) (D : List PyData), σ = [some (.ref p), some (.int x), some (.int y), some (.int dx), some (.int dy), some v5, some v6, some v7, some v8] ∧ Mid p H0 m 8 x y dx dy v5 v6 H ∧
  DV (del H p) v7 (.list D) ∧ allG D ∧ D.length = n ∧ DV (del H p) v8 (.tuple [.int fx, .int fy]) ∧ (-3 ≤ fx ∧ fx ≤ 36) ∧ (-3 ≤ fy ∧ fy ≤ 36)
section
variable {P : Program} {w : World} {K : PySem.W.Frag} {mg : Str → Option Value} {base : Heap} {f : Addr} {cdv : Value} {A : Around} {outer : List Env} {s : Shared} {H0 : Hp} {E : XK} {p : Addr} {m : Int}
theorem tail12 (T : Ta mg) : Tail (XV P w K mg base f cdv A outer s H0 E) p H0 m 12 (Rs8 p H0 m 49) := by
  refine ⟨_, pss_one (ps_ret (pe_op op_cat (pv 7) (pe_lst (pa_cons (pe_tup (pa_cons (pe_tup (pa_cons pe_bl (pa_cons pe_int pa_nil))) (pa_cons (pe_tup (pa_cons pe_int (pa_cons pe_int pa_nil))) pa_nil))) (pa_cons (pe_tup (pa_cons (pe_tup (pa_cons pe_int (pa_cons pe_int pa_nil))) (pa_cons (pe_tup (pa_cons pe_bl (pa_cons pe_int pa_nil))) pa_nil))) (pa_cons (pe_tup (pa_cons (pe_tup (pa_cons (pv 1) (pa_cons (pv 2) pa_nil))) (pa_cons (pe_tup (pa_cons (pe_op op_add (pv 1) pe_int) (pa_cons (pv 2) pa_nil))) pa_nil))) (pa_cons (pe_tup (pa_cons (pe_lst (pa_cons (pv 1) pa_nil)) (pa_cons (pv 2) pa_nil))) pa_nil))))))), ?_⟩
  rintro D _ H ⟨x, y, dx, dy, fx, fy, v5, v6, v7, v8, ds, rfl, M, d7, g7, l7, d8, rf, rg⟩ fin
  obtain ⟨⟨x0, x1⟩, ⟨y0, y1⟩, ⟨dx0, dx1⟩, ⟨dy0, dy1⟩⟩ := M.r
  have hp := M.b.some
  refine goRet ⟨_, (mk_cat hp (mk_var rfl d7) (mk_lst hp (mks_cons (mk_tup hp (mks_cons (mk_tup hp (mks_cons (mk_bl _) (mks_cons (mk_int _) mks_nil))) (mks_cons (mk_tup hp (mks_cons (mk_int _) (mks_cons (mk_int _) mks_nil))) mks_nil))) (mks_cons (mk_tup hp (mks_cons (mk_tup hp (mks_cons (mk_int _) (mks_cons (mk_int _) mks_nil))) (mks_cons (mk_tup hp (mks_cons (mk_bl _) (mks_cons (mk_int _) mks_nil))) mks_nil))) (mks_cons (mk_tup hp (mks_cons (mk_tup hp (mks_cons (mk_var rfl (.int _)) (mks_cons (mk_var rfl (.int _)) mks_nil))) (mks_cons (mk_tup hp (mks_cons (mk_op (mk_var rfl (.int _)) (mk_int _)) (mks_cons (mk_var rfl (.int _)) mks_nil))) mks_nil))) (mks_cons (mk_tup hp (mks_cons (mk_lst hp (mks_cons (mk_var rfl (.int _)) mks_nil)) (mks_cons (mk_var rfl (.int _)) mks_nil))) mks_nil))))) (by rw [l7]; exact Nat.le_of_ble_eq_true rfl)), fun v H' e s => ?_⟩
  obtain ⟨D2, eD, gD, lD⟩ : ∃ D2, DV (del H' p) v (.list D2) ∧ allG D2 ∧ D2.length = 53 := ⟨_, e, allG_app g7 (by ((repeat' (first | exact trivial | refine And.intro ?_ ?_)); all_goals (refine ⟨?_, Nat.le_of_ble_eq_true rfl, Nat.le_of_ble_eq_true rfl, by first | exact fun _ => rfl | exact fun h => nomatch h⟩; ((try simp only [okD, okDs]); (repeat' (first | exact trivial | assumption | refine And.intro ?_ ?_)); all_goals first | exact trivial | assumption | exact lt40 (by omega) | exact big29 | exact big20 | decide)))), by rw [List.length_append, l7]; rfl⟩
  obtain ⟨L, xs, rfl, hL, dL⟩ := dv_lst eD
  exact fin L xs D2 H' (by omega) (by omega) (allG_of gD) hL dL ((M.b.more s).le (by omega)) (same_tr M.s (same_del s))
theorem tail11 (T : Ta mg) : Tail (XV P w K mg base f cdv A outer s H0 E) p H0 m 11 (Rs8 p H0 m 47) := by
  obtain ⟨t, ht, go⟩ := tail12 (P := P) (w := w) (K := K) (mg := mg) (base := base) (f := f) (cdv := cdv) (A := A) (outer := outer) (s := s) (H0 := H0) (E := E) (p := p) (m := m) T
  refine ⟨_, pss_cons (ps_set (i := 7) scVal.nd rfl (Or.inl rfl) (pe_op op_cat (pv 7) (pe_lst (pa_cons (pe_tup (pa_cons (pe_lst (pa_cons (pv 1) (pa_cons (pv 2) pa_nil))) (pa_cons (pe_tup (pa_cons (pe_op op_add (pv 1) pe_int) (pa_cons (pv 2) pa_nil))) pa_nil))) (pa_cons (pe_tup (pa_cons (pe_tup (pa_cons (pv 1) (pa_cons (pv 2) pa_nil))) (pa_cons (pe_lst (pa_cons (pv 1) (pa_cons (pe_op op_add (pv 2) pe_int) pa_nil))) pa_nil))) pa_nil))))) ht, ?_⟩
  rintro D _ H ⟨x, y, dx, dy, fx, fy, v5, v6, v7, v8, ds, rfl, M, d7, g7, l7, d8, rf, rg⟩ fin
  obtain ⟨⟨x0, x1⟩, ⟨y0, y1⟩, ⟨dx0, dx1⟩, ⟨dy0, dy1⟩⟩ := M.r
  have hp := M.b.some
  have ht1 : (Str.ofString (toString x)).length ≤ 100 := (txt_ok x0 x1).1
  have ht2 : ∀ c ∈ (Str.ofString (toString x)).cps.toList, c < 200 := (txt_ok x0 x1).2
  refine goSet ⟨_, (mk_cat hp (mk_var rfl d7) (mk_lst hp (mks_cons (mk_tup hp (mks_cons (mk_lst hp (mks_cons (mk_var rfl (.int _)) (mks_cons (mk_var rfl (.int _)) mks_nil))) (mks_cons (mk_tup hp (mks_cons (mk_op (mk_var rfl (.int _)) (mk_int _)) (mks_cons (mk_var rfl (.int _)) mks_nil))) mks_nil))) (mks_cons (mk_tup hp (mks_cons (mk_tup hp (mks_cons (mk_var rfl (.int _)) (mks_cons (mk_var rfl (.int _)) mks_nil))) (mks_cons (mk_lst hp (mks_cons (mk_var rfl (.int _)) (mks_cons (mk_op (mk_var rfl (.int _)) (mk_int _)) mks_nil))) mks_nil))) mks_nil))) (by rw [l7]; exact Nat.le_of_ble_eq_true rfl)), fun v H' e s => ?_⟩
  obtain ⟨D2, eD, gD, lD⟩ : ∃ D2, DV (del H' p) v (.list D2) ∧ allG D2 ∧ D2.length = 49 := ⟨_, e, allG_app g7 (by ((repeat' (first | exact trivial | refine And.intro ?_ ?_)); all_goals (refine ⟨?_, Nat.le_of_ble_eq_true rfl, Nat.le_of_ble_eq_true rfl, by first | exact fun _ => rfl | exact fun h => nomatch h⟩; ((try simp only [okD, okDs]); (repeat' (first | exact trivial | assumption | refine And.intro ?_ ?_)); all_goals first | exact trivial | assumption | exact lt40 (by omega) | exact big29 | exact big20 | decide)))), by rw [List.length_append, l7]; rfl⟩
  exact go D _ _ ⟨x, y, dx, dy, fx, fy, v5, v6, v, v8, D2, rfl, M.more s, eD, gD, lD, d8.more (same_del s), rf, rg⟩ fin
theorem tail10 (T : Ta mg) : Tail (XV P w K mg base f cdv A outer s H0 E) p H0 m 10 (Rs8 p H0 m 39) := by
  obtain ⟨t, ht, go⟩ := tail11 (P := P) (w := w) (K := K) (mg := mg) (base := base) (f := f) (cdv := cdv) (A := A) (outer := outer) (s := s) (H0 := H0) (E := E) (p := p) (m := m) T
  refine ⟨_, pss_cons (ps_set (i := 7) scVal.nd rfl (Or.inl rfl) (pe_op op_cat (pv 7) (pe_lst (pa_cons (pe_tup (pa_cons (pv 5) (pa_cons (pv 8) pa_nil))) (pa_cons (pe_tup (pa_cons (pv 8) (pa_cons (pv 5) pa_nil))) (pa_cons (pv 8) (pa_cons (pe_un un_neg pe_int) (pa_cons (pe_un un_neg (pe_op op_pow pe_int pe_int)) (pa_cons pe_str (pa_cons pe_str (pa_cons pe_str pa_nil))))))))))) ht, ?_⟩
  rintro D _ H ⟨x, y, dx, dy, fx, fy, v5, v6, v7, v8, ds, rfl, M, d7, g7, l7, d8, rf, rg⟩ fin
  obtain ⟨⟨x0, x1⟩, ⟨y0, y1⟩, ⟨dx0, dx1⟩, ⟨dy0, dy1⟩⟩ := M.r
  have hp := M.b.some
  have ht1 : (Str.ofString (toString x)).length ≤ 100 := (txt_ok x0 x1).1
  have ht2 : ∀ c ∈ (Str.ofString (toString x)).cps.toList, c < 200 := (txt_ok x0 x1).2
  refine goSet ⟨_, (mk_cat hp (mk_var rfl d7) (mk_lst hp (mks_cons (mk_tup hp (mks_cons (mk_var rfl M.d5) (mks_cons (mk_var rfl d8) mks_nil))) (mks_cons (mk_tup hp (mks_cons (mk_var rfl d8) (mks_cons (mk_var rfl M.d5) mks_nil))) (mks_cons (mk_var rfl d8) (mks_cons (mk_neg (mk_int _)) (mks_cons (mk_neg (mk_pow (mk_int _) (mk_int _) cpow20)) (mks_cons (mk_str _) (mks_cons (mk_str _) (mks_cons (mk_str _) mks_nil))))))))) (by rw [l7]; exact Nat.le_of_ble_eq_true rfl)), fun v H' e s => ?_⟩
  obtain ⟨D2, eD, gD, lD⟩ : ∃ D2, DV (del H' p) v (.list D2) ∧ allG D2 ∧ D2.length = 47 := ⟨_, e, allG_app g7 (by ((repeat' (first | exact trivial | refine And.intro ?_ ?_)); all_goals (refine ⟨?_, Nat.le_of_ble_eq_true rfl, Nat.le_of_ble_eq_true rfl, by first | exact fun _ => rfl | exact fun h => nomatch h⟩; ((try simp only [okD, okDs]); (repeat' (first | exact trivial | assumption | refine And.intro ?_ ?_)); all_goals first | exact trivial | assumption | exact lt40 (by omega) | exact big29 | exact big20 | decide)))), by rw [List.length_append, l7]; rfl⟩
  exact go D _ _ ⟨x, y, dx, dy, fx, fy, v5, v6, v, v8, D2, rfl, M.more s, eD, gD, lD, d8.more (same_del s), rf, rg⟩ fin
theorem tail9 (T : Ta mg) (hr : Room 1 (A.deeper (envOfC "_law_values" (defScope (top 32)) s.heap.objs.size f cdv))) {fT : Addr} {fdT : FuncData} (GT : FnOk P w K mg base CX0 1 fT fdT ["_law_box_here", "_law_many"] spTake) (AT : At K mg "_law_take" fT fdT ["_law_box_here", "_law_many"]) (hm : m ≤ 100000) : Tail (XV P w K mg base f cdv A outer s H0 E) p H0 m 9 (Rs7 p H0 m 39) := by
  obtain ⟨t, ht, go⟩ := tail10 (P := P) (w := w) (K := K) (mg := mg) (base := base) (f := f) (cdv := cdv) (A := A) (outer := outer) (s := s) (H0 := H0) (E := E) (p := p) (m := m) T
  refine ⟨_, pss_cons (ps_set (i := 8) scVal.nd rfl (Or.inl rfl) (pe_tup (pa_cons (pe_op op_sub (pe_op op_add (pv 1) (pe_call GT hr rfl AT.g AT.k AT.b .nil pass0 (pa_cons (pv 0) (pa_cons pe_int pa_nil)))) pe_int) (pa_cons (pe_op op_sub (pe_op op_add (pv 2) (pe_call GT hr rfl AT.g AT.k AT.b .nil pass0 (pa_cons (pv 0) (pa_cons pe_int pa_nil)))) pe_int) pa_nil)))) ht, ?_⟩
  rintro D _ H ⟨x, y, dx, dy, v5, v6, v7, ds, rfl, M, d7, g7, l7⟩ fin
  obtain ⟨⟨x0, x1⟩, ⟨y0, y1⟩, ⟨dx0, dx1⟩, ⟨dy0, dy1⟩⟩ := M.r
  refine ⟨_, rfl, _, rfl, p, m + 6, 7, rfl, M.b, by omega, by decide, by decide, fun r7 Ha r70 r71 hba ka => ⟨_, _, rfl, rfl, _, _, rfl, rfl, ?_⟩⟩
  refine ⟨_, rfl, _, rfl, p, m + 6 + 1, 7, rfl, hba, by omega, by decide, by decide, fun r8 Hb r80 r81 hbb kb => ⟨_, _, rfl, rfl, _, _, rfl, rfl, (by show 2 ≤ sizeLine; decide), fun a8 n8 => ?_⟩⟩
  have ta := same_tr (but_del ka) (but_del kb)
  have s8 : Same Hb (upd Hb a8 (.tup [.int (x + r7 - 3), .int (y + r8 - 3)])) := fun b o e => stay e n8
  have ne8 : a8 ≠ p := fun e => by
    obtain ⟨o, h⟩ := hbb.some
    rw [← e, n8] at h
    cases h
  refine go D _ _ ⟨x, y, dx, dy, x + r7 - 3, y + r8 - 3, v5, v6, v7, .ref a8, ds, rfl, ⟨M.r, (M.d5.more ta).more (same_del s8), (M.d6.more ta).more (same_del s8), (hbb.more s8).le (by omega), same_tr M.s (same_tr ta (same_del s8))⟩, (d7.more ta).more (same_del s8), g7, l7, ?_, by omega, by omega⟩ fin
  exact .tup (del_of upd_same ne8) (.cons (.int _) (.cons (.int _) .nil))
theorem tail8 (T : Ta mg) (hr : Room 1 (A.deeper (envOfC "_law_values" (defScope (top 32)) s.heap.objs.size f cdv))) {fT : Addr} {fdT : FuncData} (GT : FnOk P w K mg base CX0 1 fT fdT ["_law_box_here", "_law_many"] spTake) (AT : At K mg "_law_take" fT fdT ["_law_box_here", "_law_many"]) (hm : m ≤ 100000) : Tail (XV P w K mg base f cdv A outer s H0 E) p H0 m 8 (Rs7 p H0 m 32) := by
  obtain ⟨t, ht, go⟩ := tail9 (P := P) (w := w) (K := K) (mg := mg) (base := base) (f := f) (cdv := cdv) (A := A) (outer := outer) (s := s) (H0 := H0) (E := E) (p := p) (m := m) T hr GT AT hm
  refine ⟨_, pss_cons (ps_set (i := 7) scVal.nd rfl (Or.inl rfl) (pe_op op_cat (pv 7) (pe_lst (pa_cons pe_int (pa_cons (pe_op op_pow pe_int pe_int) (pa_cons pe_dnewK (pa_cons (pe_lst pa_nil) (pa_cons (pe_tup pa_nil) (pa_cons pe_str (pa_cons (pe_tup (pa_cons (pe_tup (pa_cons (pv 1) (pa_cons (pv 2) pa_nil))) (pa_cons (pe_lst (pa_cons (pv 1) (pa_cons (pv 2) pa_nil))) pa_nil))) pa_nil)))))))))) ht, ?_⟩
  rintro D _ H ⟨x, y, dx, dy, v5, v6, v7, ds, rfl, M, d7, g7, l7⟩ fin
  obtain ⟨⟨x0, x1⟩, ⟨y0, y1⟩, ⟨dx0, dx1⟩, ⟨dy0, dy1⟩⟩ := M.r
  have hp := M.b.some
  have ht1 : (Str.ofString (toString x)).length ≤ 100 := (txt_ok x0 x1).1
  have ht2 : ∀ c ∈ (Str.ofString (toString x)).cps.toList, c < 200 := (txt_ok x0 x1).2
  refine goSet ⟨_, (mk_cat hp (mk_var rfl d7) (mk_lst hp (mks_cons (mk_int _) (mks_cons (mk_pow (mk_int _) (mk_int _) cpow) (mks_cons (mk_dict hp) (mks_cons (mk_lst hp mks_nil) (mks_cons (mk_tup hp mks_nil) (mks_cons (mk_str _) (mks_cons (mk_tup hp (mks_cons (mk_tup hp (mks_cons (mk_var rfl (.int _)) (mks_cons (mk_var rfl (.int _)) mks_nil))) (mks_cons (mk_lst hp (mks_cons (mk_var rfl (.int _)) (mks_cons (mk_var rfl (.int _)) mks_nil))) mks_nil))) mks_nil)))))))) (by rw [l7]; exact Nat.le_of_ble_eq_true rfl)), fun v H' e s => ?_⟩
  obtain ⟨D2, eD, gD, lD⟩ : ∃ D2, DV (del H' p) v (.list D2) ∧ allG D2 ∧ D2.length = 39 := ⟨_, e, allG_app g7 (by ((repeat' (first | exact trivial | refine And.intro ?_ ?_)); all_goals (refine ⟨?_, Nat.le_of_ble_eq_true rfl, Nat.le_of_ble_eq_true rfl, by first | exact fun _ => rfl | exact fun h => nomatch h⟩; ((try simp only [okD, okDs]); (repeat' (first | exact trivial | assumption | refine And.intro ?_ ?_)); all_goals first | exact trivial | assumption | exact lt40 (by omega) | exact big29 | exact big20 | decide)))), by rw [List.length_append, l7]; rfl⟩
  exact go D _ _ ⟨x, y, dx, dy, v5, v6, v, D2, rfl, M.more s, eD, gD, lD⟩ fin
theorem tail7 (T : Ta mg) (hr : Room 1 (A.deeper (envOfC "_law_values" (defScope (top 32)) s.heap.objs.size f cdv))) {fT : Addr} {fdT : FuncData} (GT : FnOk P w K mg base CX0 1 fT fdT ["_law_box_here", "_law_many"] spTake) (AT : At K mg "_law_take" fT fdT ["_law_box_here", "_law_many"]) (hm : m ≤ 100000) : Tail (XV P w K mg base f cdv A outer s H0 E) p H0 m 7 (Rs7 p H0 m 22) := by
  obtain ⟨t, ht, go⟩ := tail8 (P := P) (w := w) (K := K) (mg := mg) (base := base) (f := f) (cdv := cdv) (A := A) (outer := outer) (s := s) (H0 := H0) (E := E) (p := p) (m := m) T hr GT AT hm
  refine ⟨_, pss_cons (ps_set (i := 7) scVal.nd rfl (Or.inl rfl) (pe_op op_cat (pv 7) (pe_lst (pa_cons pe_str (pa_cons pe_str (pa_cons pe_str (pa_cons pe_str (pa_cons pe_str (pa_cons pe_str (pa_cons pe_str (pa_cons pe_str (pa_cons (pe_lst (pa_cons pe_str pa_nil)) (pa_cons (pe_tup (pa_cons pe_str pa_nil)) pa_nil))))))))))))) ht, ?_⟩
  rintro D _ H ⟨x, y, dx, dy, v5, v6, v7, ds, rfl, M, d7, g7, l7⟩ fin
  obtain ⟨⟨x0, x1⟩, ⟨y0, y1⟩, ⟨dx0, dx1⟩, ⟨dy0, dy1⟩⟩ := M.r
  have hp := M.b.some
  have ht1 : (Str.ofString (toString x)).length ≤ 100 := (txt_ok x0 x1).1
  have ht2 : ∀ c ∈ (Str.ofString (toString x)).cps.toList, c < 200 := (txt_ok x0 x1).2
  refine goSet ⟨_, (mk_cat hp (mk_var rfl d7) (mk_lst hp (mks_cons (mk_str _) (mks_cons (mk_str _) (mks_cons (mk_str _) (mks_cons (mk_str _) (mks_cons (mk_str _) (mks_cons (mk_str _) (mks_cons (mk_str _) (mks_cons (mk_str _) (mks_cons (mk_lst hp (mks_cons (mk_str _) mks_nil)) (mks_cons (mk_tup hp (mks_cons (mk_str _) mks_nil)) mks_nil))))))))))) (by rw [l7]; exact Nat.le_of_ble_eq_true rfl)), fun v H' e s => ?_⟩
  obtain ⟨D2, eD, gD, lD⟩ : ∃ D2, DV (del H' p) v (.list D2) ∧ allG D2 ∧ D2.length = 32 := ⟨_, e, allG_app g7 (by ((repeat' (first | exact trivial | refine And.intro ?_ ?_)); all_goals (refine ⟨?_, Nat.le_of_ble_eq_true rfl, Nat.le_of_ble_eq_true rfl, by first | exact fun _ => rfl | exact fun h => nomatch h⟩; ((try simp only [okD, okDs]); (repeat' (first | exact trivial | assumption | refine And.intro ?_ ?_)); all_goals first | exact trivial | assumption | exact lt40 (by omega) | exact big29 | exact big20 | decide)))), by rw [List.length_append, l7]; rfl⟩
  exact go D _ _ ⟨x, y, dx, dy, v5, v6, v, D2, rfl, M.more s, eD, gD, lD⟩ fin
theorem tail6 (T : Ta mg) (hr : Room 1 (A.deeper (envOfC "_law_values" (defScope (top 32)) s.heap.objs.size f cdv))) {fT : Addr} {fdT : FuncData} (GT : FnOk P w K mg base CX0 1 fT fdT ["_law_box_here", "_law_many"] spTake) (AT : At K mg "_law_take" fT fdT ["_law_box_here", "_law_many"]) (hm : m ≤ 100000) : Tail (XV P w K mg base f cdv A outer s H0 E) p H0 m 6 (Rs7 p H0 m 15) := by
  obtain ⟨t, ht, go⟩ := tail7 (P := P) (w := w) (K := K) (mg := mg) (base := base) (f := f) (cdv := cdv) (A := A) (outer := outer) (s := s) (H0 := H0) (E := E) (p := p) (m := m) T hr GT AT hm
  refine ⟨_, pss_cons (ps_set (i := 7) scVal.nd rfl (Or.inl rfl) (pe_op op_cat (pv 7) (pe_lst (pa_cons (pe_tup (pa_cons (pv 1) (pa_cons pe_int pa_nil))) (pa_cons (pe_tup (pa_cons (pe_un un_neg pe_int) (pa_cons (pv 2) pa_nil))) (pa_cons (pe_tup (pa_cons pe_int (pa_cons (pv 2) pa_nil))) (pa_cons (pv 1) (pa_cons pe_non (pa_cons pe_bl (pa_cons pe_bl pa_nil)))))))))) ht, ?_⟩
  rintro D _ H ⟨x, y, dx, dy, v5, v6, v7, ds, rfl, M, d7, g7, l7⟩ fin
  obtain ⟨⟨x0, x1⟩, ⟨y0, y1⟩, ⟨dx0, dx1⟩, ⟨dy0, dy1⟩⟩ := M.r
  have hp := M.b.some
  have ht1 : (Str.ofString (toString x)).length ≤ 100 := (txt_ok x0 x1).1
  have ht2 : ∀ c ∈ (Str.ofString (toString x)).cps.toList, c < 200 := (txt_ok x0 x1).2
  refine goSet ⟨_, (mk_cat hp (mk_var rfl d7) (mk_lst hp (mks_cons (mk_tup hp (mks_cons (mk_var rfl (.int _)) (mks_cons (mk_int _) mks_nil))) (mks_cons (mk_tup hp (mks_cons (mk_neg (mk_int _)) (mks_cons (mk_var rfl (.int _)) mks_nil))) (mks_cons (mk_tup hp (mks_cons (mk_int _) (mks_cons (mk_var rfl (.int _)) mks_nil))) (mks_cons (mk_var rfl (.int _)) (mks_cons mk_non (mks_cons (mk_bl _) (mks_cons (mk_bl _) mks_nil)))))))) (by rw [l7]; exact Nat.le_of_ble_eq_true rfl)), fun v H' e s => ?_⟩
  obtain ⟨D2, eD, gD, lD⟩ : ∃ D2, DV (del H' p) v (.list D2) ∧ allG D2 ∧ D2.length = 22 := ⟨_, e, allG_app g7 (by ((repeat' (first | exact trivial | refine And.intro ?_ ?_)); all_goals (refine ⟨?_, Nat.le_of_ble_eq_true rfl, Nat.le_of_ble_eq_true rfl, by first | exact fun _ => rfl | exact fun h => nomatch h⟩; ((try simp only [okD, okDs]); (repeat' (first | exact trivial | assumption | refine And.intro ?_ ?_)); all_goals first | exact trivial | assumption | exact lt40 (by omega) | exact big29 | exact big20 | decide)))), by rw [List.length_append, l7]; rfl⟩
  exact go D _ _ ⟨x, y, dx, dy, v5, v6, v, D2, rfl, M.more s, eD, gD, lD⟩ fin
theorem tail5 (T : Ta mg) (hr : Room 1 (A.deeper (envOfC "_law_values" (defScope (top 32)) s.heap.objs.size f cdv))) {fT : Addr} {fdT : FuncData} (GT : FnOk P w K mg base CX0 1 fT fdT ["_law_box_here", "_law_many"] spTake) (AT : At K mg "_law_take" fT fdT ["_law_box_here", "_law_many"]) (hm : m ≤ 100000) : Tail (XV P w K mg base f cdv A outer s H0 E) p H0 m 5 (Rs7 p H0 m 10) := by
  obtain ⟨t, ht, go⟩ := tail6 (P := P) (w := w) (K := K) (mg := mg) (base := base) (f := f) (cdv := cdv) (A := A) (outer := outer) (s := s) (H0 := H0) (E := E) (p := p) (m := m) T hr GT AT hm
  refine ⟨_, pss_cons (ps_set (i := 7) scVal.nd rfl (Or.inl rfl) (pe_op op_cat (pv 7) (pe_lst (pa_cons (pe_lst (pa_cons (pv 1) (pa_cons (pv 2) pa_nil))) (pa_cons (pe_tup (pa_cons pe_bl (pa_cons (pv 2) pa_nil))) (pa_cons (pe_tup (pa_cons (pv 1) (pa_cons pe_bl pa_nil))) (pa_cons (pe_tup (pa_cons (pv 1) (pa_cons pe_non pa_nil))) (pa_cons (pe_tup (pa_cons (pe_callTy call_str_int (by rfl) T.str (by decide +kernel) (pa_cons (pv 1) pa_nil)) (pa_cons (pv 2) pa_nil))) pa_nil)))))))) ht, ?_⟩
  rintro D _ H ⟨x, y, dx, dy, v5, v6, v7, ds, rfl, M, d7, g7, l7⟩ fin
  obtain ⟨⟨x0, x1⟩, ⟨y0, y1⟩, ⟨dx0, dx1⟩, ⟨dy0, dy1⟩⟩ := M.r
  have hp := M.b.some
  have ht1 : (Str.ofString (toString x)).length ≤ 100 := (txt_ok x0 x1).1
  have ht2 : ∀ c ∈ (Str.ofString (toString x)).cps.toList, c < 200 := (txt_ok x0 x1).2
  refine goSet ⟨_, (mk_cat hp (mk_var rfl d7) (mk_lst hp (mks_cons (mk_lst hp (mks_cons (mk_var rfl (.int _)) (mks_cons (mk_var rfl (.int _)) mks_nil))) (mks_cons (mk_tup hp (mks_cons (mk_bl _) (mks_cons (mk_var rfl (.int _)) mks_nil))) (mks_cons (mk_tup hp (mks_cons (mk_var rfl (.int _)) (mks_cons (mk_bl _) mks_nil))) (mks_cons (mk_tup hp (mks_cons (mk_var rfl (.int _)) (mks_cons mk_non mks_nil))) (mks_cons (mk_tup hp (mks_cons (mk_text (mks_cons (mk_var rfl (.int _)) mks_nil) (log_lt (Nat.lt_of_le_of_lt (show x.natAbs ≤ 30 by omega) (by decide)))) (mks_cons (mk_var rfl (.int _)) mks_nil))) mks_nil)))))) (by rw [l7]; exact Nat.le_of_ble_eq_true rfl)), fun v H' e s => ?_⟩
  obtain ⟨D2, eD, gD, lD⟩ : ∃ D2, DV (del H' p) v (.list D2) ∧ allG D2 ∧ D2.length = 15 := ⟨_, e, allG_app g7 (by ((repeat' (first | exact trivial | refine And.intro ?_ ?_)); all_goals (refine ⟨?_, Nat.le_of_ble_eq_true rfl, Nat.le_of_ble_eq_true rfl, by first | exact fun _ => rfl | exact fun h => nomatch h⟩; ((try simp only [okD, okDs]); (repeat' (first | exact trivial | assumption | refine And.intro ?_ ?_)); all_goals first | exact trivial | assumption | exact lt40 (by omega) | exact big29 | exact big20 | decide)))), by rw [List.length_append, l7]; rfl⟩
  exact go D _ _ ⟨x, y, dx, dy, v5, v6, v, D2, rfl, M.more s, eD, gD, lD⟩ fin
theorem tail4 (T : Ta mg) (hr : Room 1 (A.deeper (envOfC "_law_values" (defScope (top 32)) s.heap.objs.size f cdv))) {fT : Addr} {fdT : FuncData} (GT : FnOk P w K mg base CX0 1 fT fdT ["_law_box_here", "_law_many"] spTake) (AT : At K mg "_law_take" fT fdT ["_law_box_here", "_law_many"]) (hm : m ≤ 100000) : Tail (XV P w K mg base f cdv A outer s H0 E) p H0 m 4 (Rs7 p H0 m 5) := by
  obtain ⟨t, ht, go⟩ := tail5 (P := P) (w := w) (K := K) (mg := mg) (base := base) (f := f) (cdv := cdv) (A := A) (outer := outer) (s := s) (H0 := H0) (E := E) (p := p) (m := m) T hr GT AT hm
  refine ⟨_, pss_cons (ps_set (i := 7) scVal.nd rfl (Or.inl rfl) (pe_op op_cat (pv 7) (pe_lst (pa_cons (pe_tup (pa_cons (pv 5) (pa_cons (pv 5) pa_nil))) (pa_cons (pe_tup (pa_cons (pv 5) (pa_cons (pv 6) (pa_cons (pv 5) pa_nil)))) (pa_cons (pe_tup (pa_cons (pv 5) pa_nil)) (pa_cons (pe_tup (pa_cons (pv 1) pa_nil)) (pa_cons (pe_tup (pa_cons (pv 1) (pa_cons (pv 2) (pa_cons pe_int pa_nil)))) pa_nil)))))))) ht, ?_⟩
  rintro D _ H ⟨x, y, dx, dy, v5, v6, v7, ds, rfl, M, d7, g7, l7⟩ fin
  obtain ⟨⟨x0, x1⟩, ⟨y0, y1⟩, ⟨dx0, dx1⟩, ⟨dy0, dy1⟩⟩ := M.r
  have hp := M.b.some
  have ht1 : (Str.ofString (toString x)).length ≤ 100 := (txt_ok x0 x1).1
  have ht2 : ∀ c ∈ (Str.ofString (toString x)).cps.toList, c < 200 := (txt_ok x0 x1).2
  refine goSet ⟨_, (mk_cat hp (mk_var rfl d7) (mk_lst hp (mks_cons (mk_tup hp (mks_cons (mk_var rfl M.d5) (mks_cons (mk_var rfl M.d5) mks_nil))) (mks_cons (mk_tup hp (mks_cons (mk_var rfl M.d5) (mks_cons (mk_var rfl M.d6) (mks_cons (mk_var rfl M.d5) mks_nil)))) (mks_cons (mk_tup hp (mks_cons (mk_var rfl M.d5) mks_nil)) (mks_cons (mk_tup hp (mks_cons (mk_var rfl (.int _)) mks_nil)) (mks_cons (mk_tup hp (mks_cons (mk_var rfl (.int _)) (mks_cons (mk_var rfl (.int _)) (mks_cons (mk_int _) mks_nil)))) mks_nil)))))) (by rw [l7]; exact Nat.le_of_ble_eq_true rfl)), fun v H' e s => ?_⟩
  obtain ⟨D2, eD, gD, lD⟩ : ∃ D2, DV (del H' p) v (.list D2) ∧ allG D2 ∧ D2.length = 10 := ⟨_, e, allG_app g7 (by ((repeat' (first | exact trivial | refine And.intro ?_ ?_)); all_goals (refine ⟨?_, Nat.le_of_ble_eq_true rfl, Nat.le_of_ble_eq_true rfl, by first | exact fun _ => rfl | exact fun h => nomatch h⟩; ((try simp only [okD, okDs]); (repeat' (first | exact trivial | assumption | refine And.intro ?_ ?_)); all_goals first | exact trivial | assumption | exact lt40 (by omega) | exact big29 | exact big20 | decide)))), by rw [List.length_append, l7]; rfl⟩
  exact go D _ _ ⟨x, y, dx, dy, v5, v6, v, D2, rfl, M.more s, eD, gD, lD⟩ fin
theorem tail3 (T : Ta mg) (hr : Room 1 (A.deeper (envOfC "_law_values" (defScope (top 32)) s.heap.objs.size f cdv))) {fT : Addr} {fdT : FuncData} (GT : FnOk P w K mg base CX0 1 fT fdT ["_law_box_here", "_law_many"] spTake) (AT : At K mg "_law_take" fT fdT ["_law_box_here", "_law_many"]) (hm : m ≤ 100000) : Tail (XV P w K mg base f cdv A outer s H0 E) p H0 m 3 (R3 p H0 m) := by
  obtain ⟨t, ht, go⟩ := tail4 (P := P) (w := w) (K := K) (mg := mg) (base := base) (f := f) (cdv := cdv) (A := A) (outer := outer) (s := s) (H0 := H0) (E := E) (p := p) (m := m) T hr GT AT hm
  refine ⟨_, pss_cons (ps_set (i := 7) scVal.nd rfl (Or.inl rfl) (pe_lst (pa_cons (pv 5) (pa_cons (pv 6) (pa_cons (pe_tup (pa_cons (pv 5) (pa_cons (pv 6) pa_nil))) (pa_cons (pe_tup (pa_cons (pv 6) (pa_cons (pv 5) pa_nil))) (pa_cons (pe_lst (pa_cons (pv 5) (pa_cons (pv 6) pa_nil))) pa_nil))))))) ht, ?_⟩
  rintro D _ H ⟨x, y, dx, dy, v5, v6, rfl, M⟩ fin
  obtain ⟨⟨x0, x1⟩, ⟨y0, y1⟩, ⟨dx0, dx1⟩, ⟨dy0, dy1⟩⟩ := M.r
  have hp := M.b.some
  have ht1 : (Str.ofString (toString x)).length ≤ 100 := (txt_ok x0 x1).1
  have ht2 : ∀ c ∈ (Str.ofString (toString x)).cps.toList, c < 200 := (txt_ok x0 x1).2
  refine goSet ⟨_, (mk_lst hp (mks_cons (mk_var rfl M.d5) (mks_cons (mk_var rfl M.d6) (mks_cons (mk_tup hp (mks_cons (mk_var rfl M.d5) (mks_cons (mk_var rfl M.d6) mks_nil))) (mks_cons (mk_tup hp (mks_cons (mk_var rfl M.d6) (mks_cons (mk_var rfl M.d5) mks_nil))) (mks_cons (mk_lst hp (mks_cons (mk_var rfl M.d5) (mks_cons (mk_var rfl M.d6) mks_nil))) mks_nil)))))), fun v H' e s => ?_⟩
  obtain ⟨D2, eD, gD, lD⟩ : ∃ D2, DV (del H' p) v (.list D2) ∧ allG D2 ∧ D2.length = 5 := ⟨_, e, by ((repeat' (first | exact trivial | refine And.intro ?_ ?_)); all_goals (refine ⟨?_, Nat.le_of_ble_eq_true rfl, Nat.le_of_ble_eq_true rfl, by first | exact fun _ => rfl | exact fun h => nomatch h⟩; ((try simp only [okD, okDs]); (repeat' (first | exact trivial | assumption | refine And.intro ?_ ?_)); all_goals first | exact trivial | assumption | exact lt40 (by omega) | exact big29 | exact big20 | decide))), rfl⟩
  exact go D _ _ ⟨x, y, dx, dy, v5, v6, v, D2, rfl, M.more s, eD, gD, lD⟩ fin
end
section
variable {P : Program} {w : World} {K : PySem.W.Frag} {mg : Str → Option Value} {base : Heap}
theorem ok_vals {f fT : Addr} {fd fdT : FuncData} (F : Fun K "_law_values" "_law_values" (top 32) f fd) (T : Ta mg) (GT : FnOk P w K mg base CX0 1 fT fdT ["_law_box_here", "_law_many"] spTake) (AT : At K mg "_law_take" fT fdT ["_law_box_here", "_law_many"]) : FnOk P w K mg base CX0 2 f fd ["_law_box_here"] spVal := by
  refine F.ok scVal (fun vs H Q E h => ?_) (fun cdv A outer s H vs Q E hr h => ?_)
  · obtain ⟨p, m, rfl, _⟩ := h
    rfl
  · obtain ⟨p, m, rfl, hb, hm, q⟩ := h
    obtain ⟨t, ht, go⟩ := tail3 (P := P) (w := w) (K := K) (mg := mg) (base := base) (f := f) (cdv := cdv) (A := A) (outer := outer) (s := s) (H0 := H) (E := E) (p := p) (m := m) T hr GT AT hm
    refine ⟨_, pss_cons (ps_par (i := 1) (j := 2) rfl scVal.nd rfl rfl (by decide) rfl rfl (pa_cons (pe_ix ix_list (pe_lst (pa_cons pe_int (pa_cons pe_int (pa_cons pe_int (pa_cons pe_int (pa_cons (pe_call GT hr rfl AT.g AT.k AT.b .nil pass0 (pa_cons (pv 0) (pa_cons pe_int pa_nil))) pa_nil)))))) (pe_call GT hr rfl AT.g AT.k AT.b .nil pass0 (pa_cons (pv 0) (pa_cons pe_int pa_nil))) (fun _ _ => rfl)) (pa_cons (pe_ix ix_list (pe_lst (pa_cons pe_int (pa_cons pe_int (pa_cons (pe_call GT hr rfl AT.g AT.k AT.b .nil pass0 (pa_cons (pv 0) (pa_cons pe_int pa_nil))) pa_nil)))) (pe_call GT hr rfl AT.g AT.k AT.b .nil pass0 (pa_cons (pv 0) (pa_cons pe_int pa_nil))) (fun _ _ => rfl)) pa_nil)) rfl)
      (pss_cons (ps_par (i := 3) (j := 4) rfl scVal.nd rfl rfl (by decide) rfl rfl (pa_cons (pe_op op_sub (pe_call GT hr rfl AT.g AT.k AT.b .nil pass0 (pa_cons (pv 0) (pa_cons pe_int pa_nil))) pe_int) (pa_cons (pe_op op_sub (pe_call GT hr rfl AT.g AT.k AT.b .nil pass0 (pa_cons (pv 0) (pa_cons pe_int pa_nil))) pe_int) pa_nil)) rfl)
      (pss_cons (ps_par (i := 5) (j := 6) rfl scVal.nd rfl rfl (by decide) rfl rfl (pa_cons (pe_tup (pa_cons (pv 1) (pa_cons (pv 2) pa_nil))) (pa_cons (pe_tup (pa_cons (pe_op op_add (pv 1) (pv 3)) (pa_cons (pe_op op_add (pv 2) (pv 4)) pa_nil))) pa_nil)) rfl) ht)), ?_⟩
    refine ⟨_, rfl, p, m, 31, rfl, hb, by omega, by decide, by decide, fun r1 H1 r10 r11 hb1 k1 => ⟨(by show 5 ≤ sizeLine; decide), fun l1 n1 => ?_⟩⟩
    have hb1' : BoxAt (upd H1 l1 (.lst [.int 0, .int 30, .int 1, .int 29, .int r1])) p (m + 1) := hb1.more fun b o e => stay e n1
    refine ⟨_, rfl, p, m + 1, 5, rfl, hb1', by omega, by decide, by decide, fun r2 H2 r20 r21 hb2 k2 => ?_⟩
    have ne1 : l1 ≠ p := fun e => by
      obtain ⟨o, h⟩ := hb1.some
      rw [← e, n1] at h
      cases h
    obtain ⟨x, ex, x0, x1⟩ : ∃ x : Int, atI [V.int 0, .int 30, .int 1, .int 29, .int r1] r2 = some (.int x) ∧ 0 ≤ x ∧ x ≤ 30 := by
      have z : r2 = 0 ∨ r2 = 1 ∨ r2 = 2 ∨ r2 = 3 ∨ r2 = 4 := by omega
      rcases z with rfl | rfl | rfl | rfl | rfl
      · exact ⟨0, rfl, by decide, by decide⟩
      · exact ⟨30, rfl, by decide, by decide⟩
      · exact ⟨1, rfl, by decide, by decide⟩
      · exact ⟨29, rfl, by decide, by decide⟩
      · exact ⟨r1, rfl, r10, by omega⟩
    refine ⟨l1, _, _, .int x, rfl, rfl, SqL.of (k2 _ _ ne1 upd_same), ex, ?_⟩
    refine ⟨_, rfl, p, m + 1 + 1, 31, rfl, hb2, by omega, by decide, by decide, fun r3 H3 r30 r31 hb3 k3 => ⟨(by show 3 ≤ sizeLine; decide), fun l2 n2 => ?_⟩⟩
    have hb3' : BoxAt (upd H3 l2 (.lst [.int 0, .int 30, .int r3])) p (m + 1 + 1 + 1) := hb3.more fun b o e => stay e n2
    refine ⟨_, rfl, p, m + 1 + 1 + 1, 3, rfl, hb3', by omega, by decide, by decide, fun r4 H4 r40 r41 hb4 k4 => ?_⟩
    have ne2 : l2 ≠ p := fun e => by
      obtain ⟨o, h⟩ := hb3.some
      rw [← e, n2] at h
      cases h
    obtain ⟨y, ey, y0, y1⟩ : ∃ x : Int, atI [V.int 0, .int 30, .int r3] r4 = some (.int x) ∧ 0 ≤ x ∧ x ≤ 30 := by
      have z : r4 = 0 ∨ r4 = 1 ∨ r4 = 2 := by omega
      rcases z with rfl | rfl | rfl
      · exact ⟨0, rfl, by decide, by decide⟩
      · exact ⟨30, rfl, by decide, by decide⟩
      · exact ⟨r3, rfl, r30, by omega⟩
    refine ⟨l2, _, _, .int y, rfl, rfl, SqL.of (k4 _ _ ne2 upd_same), ey, _, _, rfl, ?_⟩
    have t4 : Same (del H p) (del H4 p) := same_tr (but_del k1) (same_tr (same_del fun b o e => stay e n1) (same_tr (but_del k2) (same_tr (but_del k3) (same_tr (same_del fun b o e => stay e n2) (but_del k4)))))
    refine ⟨_, rfl, p, m + 1 + 1 + 1 + 1, 3, rfl, hb4, by omega, by decide, by decide, fun r5 H5 r50 r51 hb5 k5 => ⟨_, _, rfl, rfl, ?_⟩⟩
    refine ⟨_, rfl, p, m + 1 + 1 + 1 + 1 + 1, 3, rfl, hb5, by omega, by decide, by decide, fun r6 H6 r60 r61 hb6 k6 => ⟨_, _, rfl, rfl, _, _, rfl, ?_⟩⟩
    have t6 : Same (del H p) (del H6 p) := same_tr t4 (same_tr (but_del k5) (but_del k6))
    have hp := hb6.some
    have hbc := hb6
    (try dsimp only)
    refine goPar ⟨_, (mks_cons (mk_tup hp (mks_cons (mk_var rfl (.int _)) (mks_cons (mk_var rfl (.int _)) mks_nil))) (mks_cons (mk_tup hp (mks_cons (mk_op (mk_var rfl (.int _)) (mk_var rfl (.int _))) (mks_cons (mk_op (mk_var rfl (.int _)) (mk_var rfl (.int _))) mks_nil))) mks_nil)), fun vs H7 dvs s7 => ?_⟩
    cases dvs with
    | cons d5 dvs =>
    rename_i v5 vs5
    cases dvs with
    | cons d6 dvs =>
    rename_i v6 vs6
    cases dvs
    refine ⟨_, _, rfl, ?_⟩
    have hb7 := hb6.more s7
    have hp := hb7.some
    have t7 := same_tr t6 (same_del s7)
    exact go _ _ H7 ⟨x, y, r5 - 1, r6 - 1, v5, v6, rfl, ⟨⟨⟨x0, x1⟩, ⟨y0, y1⟩, by omega, by omega⟩, d5, d6, hb7.le (by omega), t7⟩⟩ q
end
end K1
set_option Elab.async false
set_option linter.all false
set_option maxRecDepth 100000
set_option maxHeartbeats 16000000
namespace K1
open PySem PySem.Spec PyProof.Rows L2 Nv
section
variable {X : Cx}
/-- two lists of the same two texts -/
theorem op_neTT (hu : X.A.units + 64 < cLine) : OpR X (compareOp .NotEq) (fun x y H Q => ∃ (a b : Addr) (t u : Str), x = .ref a ∧ y = .ref b ∧ H a = some (.lst [.str t, .str u]) ∧ H b = some (.lst [.str t, .str u]) ∧ Q (.bl false) H) := by
  intro pins s σ H x y v z Q I rx ry h
  obtain ⟨a, b, t, u, rfl, rfl, ha, hb, q⟩ := h
  cases rx
  cases ry
  obtain ⟨its, r1, l1, _⟩ := I.list (SqL.of (K := X.K) ha)
  obtain ⟨its2, r2, l2, _⟩ := I.list (SqL.of (K := X.K) hb)
  cases r1 with
  | cons h1 r1 =>
  rename_i v1 vs1
  cases r1 with
  | cons h2 r1 =>
  rename_i v2 vs2
  cases r1
  cases r2 with
  | cons k1 r2 =>
  rename_i w1 ws1
  cases r2 with
  | cons k2 r2 =>
  rename_i w2 ws2
  cases r2
  obtain ⟨t1, rfl⟩ := h1
  obtain ⟨t2, rfl⟩ := h2
  obtain ⟨t3, rfl⟩ := k1
  obtain ⟨t4, rfl⟩ := k2
  show wpAny _ _ (richCompare .NotEq _ _) _ _ s
  refine SeqAt.RcNeAt.lists (e := fun _ => true) l1.isList l2.isList rfl (by omega) (fun j h1 h2 => ?_) X.prog X.w _ _ ⟨.bl false, H, I, rfl, q⟩
  have hj : j < 2 := h1
  have zz : j = 0 ∨ j = 1 := by omega
  rcases zz with rfl | rfl
  · exact fun pr w' E' Q' h' => SeqAt.EqAt.str_str t t1 t t3 pr w' E' Q' (by rw [beq_self_eq_true]; exact h')
  · exact fun pr w' E' Q' h' => SeqAt.EqAt.str_str u t2 u t4 pr w' E' Q' (by rw [beq_self_eq_true]; exact h')
end
/-- the script stands at a, apart from the box at p -/
inductive Far (K : PySem.W.Frag) (H : Hp) (a : Addr) (xs : List V) (p : Addr) : Prop
  | wr (h : ∀ H, SqL K H a xs)
  | tr {o : HO} (h : H a = some o) (k : o = .lst xs ∨ ∃ ob, o = .frz ob (.lst xs)) (ne : a ≠ p)
theorem Far.seq {K : PySem.W.Frag} {H : Hp} {a p : Addr} {xs : List V} (f : Far K H a xs p) : SqL K H a xs := by
  rcases f with h | ⟨h, k, _⟩
  · exact h H
  · rcases k with rfl | ⟨ob, rfl⟩
    · exact .inl (.inl h)
    · exact .inl (.inr ⟨ob, h⟩)
theorem Far.of {K : PySem.W.Frag} {H H' : Hp} {a p : Addr} {xs : List V} (h : SqL K H a xs) (hp : H p = none) (k : Same H H') : Far K H' a xs p := by
  rcases h with (h | ⟨o, h⟩) | h
  · exact .tr (k _ _ h) (.inl rfl) (ne_of_none h hp)
  · exact .tr (k _ _ h) (.inr ⟨o, rfl⟩) (ne_of_none h hp)
  · exact .wr fun _ => .inr h
theorem Far.del {K : PySem.W.Frag} {H H' : Hp} {a p : Addr} {xs : List V} (f : Far K H a xs p) (k : Same (del H p) (del H' p)) : Far K H' a xs p := by
  rcases f with h | ⟨h, q, ne⟩
  · exact .wr h
  · exact .tr (of_del _ _ (k _ _ (del_of h ne))) q ne
/-- what stands while the values are asked -/
structure Sta (K : PySem.W.Frag) (a : Addr) (ns : List Int) (p L : Addr) (xs : List V) (ds : List PyData) (m : Int) (H : Hp) : Prop where
  far : Far K H a (ns.map V.int) p
  b : BoxAt H p m
  l : del H p L = some (.lst xs)
  d : DVs (del H p) xs ds
  g : ∀ d ∈ ds, Gd d
  n2 : 2 ≤ ds.length
  n100 : ds.length ≤ 100
section
variable {K : PySem.W.Frag} {a p L : Addr} {ns : List Int} {xs : List V} {ds : List PyData} {m m' : Int} {H H' : Hp}
theorem Sta.more (S : Sta K a ns p L xs ds m H) (k : Same H H') : Sta K a ns p L xs ds m H' := ⟨S.far.del (same_del k), S.b.more k, same_del k _ _ S.l, S.d.more (same_del k), S.g, S.n2, S.n100⟩
theorem Sta.but (S : Sta K a ns p L xs ds m H) (b : BoxAt H' p m') (k : But p H H') : Sta K a ns p L xs ds m' H' := ⟨S.far.del (but_del k), b, but_del k _ _ S.l, S.d.more (but_del k), S.g, S.n2, S.n100⟩
theorem Sta.le (S : Sta K a ns p L xs ds m H) (h : m ≤ m') : Sta K a ns p L xs ds m' H := ⟨S.far, S.b.le h, S.l, S.d, S.g, S.n2, S.n100⟩
theorem Sta.lst (S : Sta K a ns p L xs ds m H) : SqL K H L xs := SqL.of (of_del _ _ S.l)
theorem Sta.ne {L2 : Addr} (S : Sta K a ns p L xs ds m H) (h : H L2 = none) : L2 ≠ p := fun e => by
  obtain ⟨o, q⟩ := S.b.some
  rw [← e, h] at q
  cases q
theorem Sta.pick (S : Sta K a ns p L xs ds m H) {r : Int} (r0 : 0 ≤ r) (r1 : r < (xs.length : Int)) : ∃ v d, atI xs r = some v ∧ DV (del H p) v d ∧ Gd d := by
  obtain ⟨j, rfl⟩ : ∃ j : Nat, r = j := ⟨r.toNat, by omega⟩
  have hj : j < xs.length := by omega
  have e : xs[j]? = some xs[j] := List.getElem?_eq_getElem hj
  obtain ⟨d, hd, dv⟩ := S.d.at j _ e
  exact ⟨xs[j], d, atI_nat e, dv, S.g d (List.mem_of_getElem? hd)⟩
end
theorem gd_4 (a b c d : Bool) : Gd (.list [.bool a, .bool b, .bool c, .bool d]) := by
  refine ⟨?_, by show max 0 (max 0 (max 0 (max 0 0))) + 1 ≤ 10; decide, by show (5 + 2 + (5 + 2 + (5 + 2 + (5 + 2 + 0)))) + 2 ≤ 100000; decide, fun h => by cases h⟩
  simp only [okD, okDs]
  exact ⟨trivial, trivial, trivial, trivial, trivial⟩
theorem ruld_c {k : Int} (h0 : 0 ≤ k) (h1 : k < 4) : ∃ c, atI ("ruld" : Str).cps.toList k = some c ∧ c < 200 := by
  have z : k = 0 ∨ k = 1 ∨ k = 2 ∨ k = 3 := by omega
  rcases z with rfl | rfl | rfl | rfl
  · exact ⟨114, rfl, by decide⟩
  · exact ⟨117, rfl, by decide⟩
  · exact ⟨108, rfl, by decide⟩
  · exact ⟨100, rfl, by decide⟩
theorem gd_sign {c : Nat} (h : c < 200) : Gd (.str ⟨#[c]⟩) := by
  refine ⟨?_, by show 0 ≤ 10; decide, by show 1002 ≤ 100000; decide, fun h => by cases h⟩
  simp only [okD]
  refine ⟨by show 1 ≤ 100; decide, fun x hx => ?_⟩
  have : x = c := by simpa using hx
  omega
theorem lawP_eq (d : PyData) : PyData.list [.bool (intB d), .bool (ptB d), .bool (dirB d), .bool (edgeB d)] = .list [.bool (intB d), .bool (ptB d), .bool (dirB d), .bool (ledgeB d)] := by rw [edge_same d]
def spLaw (K : PySem.W.Frag) : Sp := fun vs H Q _ => ∃ (a : Addr) (ns : List Int), vs = [.ref a] ∧ SqL K H a (ns.map V.int) ∧ ns.length ≤ 63 ∧ ∀ H', Q (.bl true) H'
structure Tb (mg : Str → Option Value) : Prop where
  rng : mg "range" = none
abbrev sLaw : Stmt := top 36
theorem scLaw : FnScope ["_law_script", "_law_k", "_law_box_here", "_law_values_here", "_law_value", "_law_said", "_law_due_here", "_law_turn", "_law_one", "_law_other", "_law_x", "_law_y", "_law_far", "_law_kind"] ["_law_script"] (defScope sLaw) := ⟨rfl, rfl, rfl, by decide +kernel, rfl, by decide +kernel, by decide +kernel⟩
theorem rng_ok (l : Nat) : -(2 ^ 62) ≤ (if (if (l : Int) < 8 then (l : Int) else 8) > 2 then (if (l : Int) < 8 then (l : Int) else 8) else 2 : Int) ∧ (if (if (l : Int) < 8 then (l : Int) else 8) > 2 then (if (l : Int) < 8 then (l : Int) else 8) else 2 : Int) < 2 ^ 62 ∧
    (if (if (l : Int) < 8 then (l : Int) else 8) > 2 then (if (l : Int) < 8 then (l : Int) else 8) else 2 : Int).toNat ≤ 8 := by
  refine ⟨?_, ?_, ?_⟩ <;> (split <;> split <;> omega)
abbrev XL (P : Program) (w : World) (K : PySem.W.Frag) (mg : Str → Option Value) (base : Heap) (f : Addr) (cdv : Value) (A : Around) (outer : List Env) (s : Shared) (H0 : Hp) (E : XK) : Cx := (cxOf CX0 P w K mg base ["_law_script", "_law_k", "_law_box_here", "_law_values_here", "_law_value", "_law_said", "_law_due_here", "_law_turn", "_law_one", "_law_other", "_law_x", "_law_y", "_law_far", "_law_kind"] "law" (defScope sLaw) f cdv A outer s H0 E).nox

section
variable {P : Program} {w : World} {K : PySem.W.Frag} {mg : Str → Option Value} {base : Heap} {f : Addr} {cdv : Value} {A : Around} {outer : List Env} {s : Shared} {H0 : Hp} {E : XK}
def lawOuter : List Stmt := match sLaw with
  | .FunctionDef _ _ (.For _ _ b _ _ :: _) .. => b
  | _ => []
def forBody : Stmt → List Stmt
  | .For _ _ b _ _ => b
  | _ => []
def lawA : List Stmt := forBody (lawOuter.getD 2 (.Pass ⟨0, 0, 0, 0⟩))
def lawB : List Stmt := forBody (lawOuter.getD 3 (.Pass ⟨0, 0, 0, 0⟩))
theorem partA (gd : A.guards = some []) (hr : Room 8 (A.deeper (envOfC "law" (defScope sLaw) s.heap.objs.size f cdv))) (T0 : Txt0 mg) (R : Tr mg) (B : Tb mg) {fI : Addr} {fdI : FuncData} (GI : FnOk P w K mg base CX0 1 fI fdI ["value"] (spB intB)) (AI : At K mg "is_integer" fI fdI ["value"]) {fP : Addr} {fdP : FuncData} (GP : FnOk P w K mg base CX0 3 fP fdP ["value"] (spB ptB)) (AP : At K mg "is_point" fP fdP ["value"]) {fD : Addr} {fdD : FuncData} (GD : FnOk P w K mg base CX0 1 fD fdD ["value"] (spB dirB)) (AD : At K mg "is_direction" fD fdD ["value"]) {fE : Addr} {fdE : FuncData} (GE : FnOk P w K mg base CX0 4 fE fdE ["value"] (spBf edgeB)) (AE : At K mg "is_edge" fE fdE ["value"]) {fLI : Addr} {fdLI : FuncData} (GLI : FnOk P w K mg base CX0 1 fLI fdLI ["_law_value"] (spB intB)) (ALI : At K mg "_law_integer" fLI fdLI ["_law_value"]) {fLP : Addr} {fdLP : FuncData} (GLP : FnOk P w K mg base CX0 2 fLP fdLP ["_law_value"] (spB ptB)) (ALP : At K mg "_law_point" fLP fdLP ["_law_value"]) {fLL : Addr} {fdLL : FuncData} (GLL : FnOk P w K mg base CX0 1 fLL fdLL ["_law_value"] (spBs dirB)) (ALL : At K mg "_law_is_letter" fLL fdLL ["_law_value"]) {fLE : Addr} {fdLE : FuncData} (GLE : FnOk P w K mg base CX0 3 fLE fdLE ["_law_value"] (spB ledgeB)) (ALE : At K mg "_law_edge" fLE fdLE ["_law_value"]) :
    ∃ t, PSs (XL P w K mg base f cdv A outer s H0 E) lawA t ∧ ∀ (D : Ends) (H : Hp) (v : V) (d : PyData) (q0 q1 q2 q3 q5 q6 q7 q8 q9 q10 q11 q12 q13 : Option V), DV H v d → Gd d →
      (∀ H' (q5 q6 : Option V), Same H H' → D.nx [q0, q1, q2, q3, some v, q5, q6, q7, q8, q9, q10, q11, q12, q13] H') → t D [q0, q1, q2, q3, some v, q5, q6, q7, q8, q9, q10, q11, q12, q13] H := by
  have gd : (A.deeper (envOfC "law" (defScope sLaw) s.heap.objs.size f cdv)).guards = some [] := gd
  have hu : (A.deeper (envOfC "law" (defScope sLaw) s.heap.objs.size f cdv)).units + 100 < cLine := by
    have := hr.un
    omega
  have hu64 : (A.deeper (envOfC "law" (defScope sLaw) s.heap.objs.size f cdv)).units + 64 < cLine := by omega
  refine ⟨_, (pss_cons (ps_set (i := 5) scLaw.nd rfl (Or.inl rfl) (pe_lst (pa_cons (pe_call GI (hr.mono (by decide)) rfl AI.g AI.k AI.b .nil pass0 (pa_cons (pv 4) pa_nil)) (pa_cons (pe_call GP (hr.mono (by decide)) rfl AP.g AP.k AP.b .nil pass0 (pa_cons (pv 4) pa_nil)) (pa_cons (pe_call GD (hr.mono (by decide)) rfl AD.g AD.k AD.b .nil pass0 (pa_cons (pv 4) pa_nil)) (pa_cons (pe_call GE (hr.mono (by decide)) rfl AE.g AE.k AE.b .nil pass0 (pa_cons (pv 4) pa_nil)) pa_nil))))))
      (pss_cons (ps_set (i := 6) scLaw.nd rfl (Or.inl rfl) (pe_lst (pa_cons (pe_call GLI (hr.mono (by decide)) rfl ALI.g ALI.k ALI.b .nil pass0 (pa_cons (pv 4) pa_nil)) (pa_cons (pe_call GLP (hr.mono (by decide)) rfl ALP.g ALP.k ALP.b .nil pass0 (pa_cons (pv 4) pa_nil)) (pa_cons (pe_call GLL (hr.mono (by decide)) rfl ALL.g ALL.k ALL.b .nil pass0 (pa_cons (pv 4) pa_nil)) (pa_cons (pe_call GLE (hr.mono (by decide)) rfl ALE.g ALE.k ALE.b .nil pass0 (pa_cons (pv 4) pa_nil)) pa_nil))))))
      (pss_one (ps_if (pt_cmpR op_ne (pe_callB (call_reprD gd hu) (by rfl) R.rep (by decide +kernel) (pa_cons (pv 5) pa_nil)) (pe_callB (call_reprD gd hu) (by rfl) R.rep (by decide +kernel) (pa_cons (pv 6) pa_nil)) (nomark _)) (pss_one (ps_ret pe_bl)) pss_nil)))), ?_⟩
  intro D H v d q0 q1 q2 q3 q5 q6 q7 q8 q9 q10 q11 q12 q13 dv g q
  refine ⟨_, rfl, v, d, rfl, dv, fun H1 s1 => ⟨_, rfl, v, d, rfl, dv.more s1, fun H2 s2 => ⟨_, rfl, v, d, rfl, dv.more (same_tr s1 s2), fun H3 s3 => ⟨_, rfl, v, d, rfl, dv.more (same_tr s1 (same_tr s2 s3)), g.flat, fun H4 s4 => ⟨(by show 4 ≤ sizeLine; decide), fun l1 n1 => ?_⟩⟩⟩⟩⟩
  have t4 : Same H (upd H4 l1 (.lst [.bl (intB d), .bl (ptB d), .bl (dirB d), .bl (edgeB d)])) := fun b o e => stay (s4 b o (s3 b o (s2 b o (s1 b o e)))) n1
  have e1 : DV (upd H4 l1 (.lst [.bl (intB d), .bl (ptB d), .bl (dirB d), .bl (edgeB d)])) (.ref l1) (.list [.bool (intB d), .bool (ptB d), .bool (dirB d), .bool (edgeB d)]) := .lst upd_same (.cons (.bl _) (.cons (.bl _) (.cons (.bl _) (.cons (.bl _) .nil))))
  refine ⟨_, rfl, v, d, rfl, dv.more t4, fun H5 s5 => ⟨_, rfl, v, d, rfl, dv.more (same_tr t4 s5), fun H6 s6 => ⟨_, rfl, v, d, rfl, dv.more (same_tr t4 (same_tr s5 s6)), g.txt, fun H7 s7 => ⟨_, rfl, v, d, rfl, dv.more (same_tr t4 (same_tr s5 (same_tr s6 s7))), fun H8 s8 => ⟨(by show 4 ≤ sizeLine; decide), fun l2 n2 => ?_⟩⟩⟩⟩⟩
  have t8 := same_tr s5 (same_tr s6 (same_tr s7 s8))
  have t9 : Same H8 (upd H8 l2 (.lst [.bl (intB d), .bl (ptB d), .bl (dirB d), .bl (ledgeB d)])) := fun b o e => stay e n2
  have e2 : DV (upd H8 l2 (.lst [.bl (intB d), .bl (ptB d), .bl (dirB d), .bl (ledgeB d)])) (.ref l2) (.list [.bool (intB d), .bool (ptB d), .bool (dirB d), .bool (edgeB d)]) := by
    rw [lawP_eq d]
    exact .lst upd_same (.cons (.bl _) (.cons (.bl _) (.cons (.bl _) (.cons (.bl _) .nil))))
  have nz := (gd_4 (intB d) (ptB d) (dirB d) (edgeB d)).nice
  refine ⟨_, rfl, _, _, rfl, (e1.more t8).more t9, nz, _, rfl, _, _, rfl, e2, nz, rfl, _, rfl, iteNS rfl ?_⟩
  exact q _ _ _ (same_tr t4 (same_tr t8 t9))
/-- behind a turn -/
def Nxt (K : PySem.W.Frag) (a : Addr) (ns : List Int) (p L : Addr) (xs : List V) (ds : List PyData) (m : Int) (q1 q4 q5 q6 : Option V) (i : Int) (D : Ends) : Prop := ∀ H' (q8 q9 q10 q11 q12 q13 : Option V), Sta K a ns p L xs ds m H' → D.nx [some (.ref a), q1, some (.ref p), some (.ref L), q4, q5, q6, some (.int i), q8, q9, q10, q11, q12, q13] H'
def TailB (X : Cx) (K : PySem.W.Frag) (n : Nat) (R : ∀ (a : Addr) (ns : List Int) (p L : Addr) (xs : List V) (ds : List PyData) (m : Int) (q1 q4 q5 q6 : Option V) (i : Int), L2.St → Hp → Prop) : Prop :=
  ∃ t, PSs X (lawB.drop n) t ∧ ∀ (D : Ends) (a : Addr) (ns : List Int) (p L : Addr) (xs : List V) (ds : List PyData) (m : Int) (q1 q4 q5 q6 : Option V) (i : Int) σ H, 0 ≤ i → m ≤ 50000 → R a ns p L xs ds m q1 q4 q5 q6 i σ H → Nxt K a ns p L xs ds (m + 8) q1 q4 q5 q6 i D → t D σ H
def RB6 (K : PySem.W.Frag) : ∀ (a : Addr) (ns : List Int) (p L : Addr) (xs : List V) (ds : List PyData) (m : Int) (q1 q4 q5 q6 : Option V) (i : Int), L2.St → Hp → Prop := fun a ns p L xs ds m q1 q4 q5 q6 i σ H =>
  ∃ (v u : V) (d e : PyData) (q10 q11 q12 q13 : Option V), σ = [some (.ref a), q1, some (.ref p), some (.ref L), q4, q5, q6, some (.int i), some v, some u, q10, q11, q12, q13] ∧ Sta K a ns p L xs ds (m + 8) H ∧ DV (del H p) v d ∧ DV (del H p) u e ∧ Gd d ∧ Gd e
theorem tailB6 (gd : A.guards = some []) (hr : Room 8 (A.deeper (envOfC "law" (defScope sLaw) s.heap.objs.size f cdv))) (T0 : Txt0 mg) (R : Tr mg) (B : Tb mg) {fCa : Addr} {fdCa : FuncData} (GCa : FnG P w K mg base 8 fCa fdCa ["_law_kind", "_law_one", "_law_other"] spTell) (ACa : At K mg "_law_caught" fCa fdCa ["_law_kind", "_law_one", "_law_other"]) {fDu : Addr} {fdDu : FuncData} (GDu : FnG P w K mg base 3 fDu fdDu ["_law_kind", "_law_one", "_law_other"] spTell) (ADu : At K mg "_law_due" fDu fdDu ["_law_kind", "_law_one", "_law_other"]) : TailB (XL P w K mg base f cdv A outer s H0 E) K 6 (RB6 K) := by
  have gd : (A.deeper (envOfC "law" (defScope sLaw) s.heap.objs.size f cdv)).guards = some [] := gd
  have hu : (A.deeper (envOfC "law" (defScope sLaw) s.heap.objs.size f cdv)).units + 100 < cLine := by
    have := hr.un
    omega
  have hu64 : (A.deeper (envOfC "law" (defScope sLaw) s.heap.objs.size f cdv)).units + 64 < cLine := by omega
  refine ⟨_, (pss_one (ps_for PassesOwn.never rfl (pi_range1 rfl B.rng (pa_cons pe_int pa_nil)) (pg_name (i := 13) scLaw.nd rfl (Or.inl rfl)) (pss_one (ps_if (pt_cmpR (op_neTT hu64) (pe_callG GCa gd (hr.mono (by decide)) rfl ACa.g ACa.k ACa.b (pa_cons (pv 13) (pa_cons (pv 8) (pa_cons (pv 9) pa_nil)))) (pe_callG GDu gd (hr.mono (by decide)) rfl ADu.g ADu.k ADu.b (pa_cons (pv 13) (pa_cons (pv 8) (pa_cons (pv 9) pa_nil)))) (nomark _)) (pss_one (ps_ret pe_bl)) pss_nil)))), ?_⟩
  rintro D a ns p L xs ds m q1 q4 q5 q6 i _ H hi hm ⟨v, u, d, e, q10, q11, q12, q13, rfl, S, dv, du, gd1, ge1⟩ q
  refine ⟨4, rfl, by decide, by decide, for_range (lo := 0) (n := 4) (fun j σ H' => ∃ q13 : Option V, σ = [some (.ref a), q1, some (.ref p), some (.ref L), q4, q5, q6, some (.int i), some v, some u, q10, q11, q12, q13] ∧ Same H H') ⟨_, rfl, same0 H⟩ ?_ ?_⟩
  · rintro j σ H1 hj ⟨q13, rfl, s1⟩
    have dv1 := (dv.more (same_del s1)).more of_del
    have du1 := (du.more (same_del s1)).more of_del
    have nr := (gd_res j gd1 ge1).nice
    refine ⟨_, rfl, _, rfl, _, rfl, j, v, u, d, e, by rw [Int.zero_add]; rfl, hj, dv1, du1, gd1.nice, ge1.nice, gd1.txt, ge1.txt, nr, fun p1 H2 s2 h2 => ?_⟩
    refine ⟨_, rfl, _, rfl, _, rfl, j, v, u, d, e, by rw [Int.zero_add]; rfl, hj, dv1.more s2, du1.more s2, gd1.nice, ge1.nice, gd1.txt, ge1.txt, nr, fun p2 H3 s3 h3 => ?_⟩
    exact ⟨p1, p2, _, _, rfl, rfl, s3 _ _ h2, h3, _, rfl, iteF ⟨_, rfl, same_tr s1 (same_tr s2 s3)⟩⟩
  · rintro σ H1 ⟨q13, rfl, s1⟩
    exact q H1 _ _ _ _ _ _ (S.more s1)
def RB5 (K : PySem.W.Frag) (b : Int) : ∀ (a : Addr) (ns : List Int) (p L : Addr) (xs : List V) (ds : List PyData) (m : Int) (q1 q4 q5 q6 : Option V) (i : Int), L2.St → Hp → Prop := fun a ns p L xs ds m q1 q4 q5 q6 i σ H =>
  ∃ (v u : V) (d e : PyData) (x y fx fy : Int) (fv : V) (q13 : Option V), σ = [some (.ref a), q1, some (.ref p), some (.ref L), q4, q5, q6, some (.int i), some v, some u, some (.int x), some (.int y), some fv, q13] ∧ Sta K a ns p L xs ds (m + b) H ∧ DV (del H p) v d ∧ DV (del H p) u e ∧ Gd d ∧ Gd e ∧
    (0 ≤ x ∧ x ≤ 30) ∧ (0 ≤ y ∧ y ≤ 30) ∧ (-3 ≤ fx ∧ fx ≤ 36) ∧ (-3 ≤ fy ∧ fy ≤ 36) ∧ DV (del H p) fv (.tuple [.int fx, .int fy])
theorem tailB5 (gd : A.guards = some []) (hr : Room 8 (A.deeper (envOfC "law" (defScope sLaw) s.heap.objs.size f cdv))) (T0 : Txt0 mg) (R : Tr mg) (B : Tb mg) {fT : Addr} {fdT : FuncData} (GT : FnOk P w K mg base CX0 1 fT fdT ["_law_box_here", "_law_many"] spTake) (AT : At K mg "_law_take" fT fdT ["_law_box_here", "_law_many"]) {fCa : Addr} {fdCa : FuncData} (GCa : FnG P w K mg base 8 fCa fdCa ["_law_kind", "_law_one", "_law_other"] spTell) (ACa : At K mg "_law_caught" fCa fdCa ["_law_kind", "_law_one", "_law_other"]) {fDu : Addr} {fdDu : FuncData} (GDu : FnG P w K mg base 3 fDu fdDu ["_law_kind", "_law_one", "_law_other"] spTell) (ADu : At K mg "_law_due" fDu fdDu ["_law_kind", "_law_one", "_law_other"]) : TailB (XL P w K mg base f cdv A outer s H0 E) K 5 (RB5 K 7) := by
  obtain ⟨t, ht, go⟩ := tailB6 (P := P) (w := w) (K := K) (mg := mg) (base := base) (f := f) (cdv := cdv) (A := A) (outer := outer) (s := s) (H0 := H0) (E := E) gd hr T0 R B GCa ACa GDu ADu
  have gd : (A.deeper (envOfC "law" (defScope sLaw) s.heap.objs.size f cdv)).guards = some [] := gd
  have hu : (A.deeper (envOfC "law" (defScope sLaw) s.heap.objs.size f cdv)).units + 100 < cLine := by
    have := hr.un
    omega
  have hu64 : (A.deeper (envOfC "law" (defScope sLaw) s.heap.objs.size f cdv)).units + 64 < cLine := by omega
  refine ⟨_, pss_cons (ps_set (i := 9) scLaw.nd rfl (Or.inl rfl) (pe_ix ix_list (pe_lst (pa_cons (pe_ix ix_list (pv 3) pe_int (fun _ _ => rfl)) (pa_cons (pv 9) (pa_cons (pe_ix ix_str pe_str (pe_op op_mod (pv 7) pe_int) (fun _ _ => rfl)) (pa_cons (pv 12) pa_nil))))) (pe_call GT (hr.mono (by decide)) rfl AT.g AT.k AT.b .nil pass0 (pa_cons (pv 2) (pa_cons pe_int pa_nil))) (fun _ _ => rfl))) ht, ?_⟩
  rintro D a ns p L xs ds m q1 q4 q5 q6 i _ H hi hm ⟨v, u, d, e, x, y, fx, fy, fv, q13, rfl, S, dv, du, gd1, ge1, bx, by_, bf, bg, df⟩ q
  have ln := S.d.length
  have l2 := S.n2
  obtain ⟨v1, d1, ev1, dv1, gv1⟩ := S.pick (r := 1) (by decide) (by omega)
  have k4 : 0 ≤ i % 4 ∧ i % 4 < 4 := ⟨Int.emod_nonneg _ (by decide), Int.emod_lt_of_pos _ (by decide)⟩
  obtain ⟨c, hc, c200⟩ := ruld_c k4.1 k4.2
  refine ⟨_, rfl, L, _, _, v1, rfl, rfl, S.lst, ev1, _, rfl, _, rfl, _, _, rfl, rfl, (by show (0 : Int) < 4; decide), "ruld", _, c, rfl, rfl, (by decide), hc, _, rfl, (by show 4 ≤ sizeLine; decide), fun l1 n1 => ?_⟩
  have s1 : Same H (upd H l1 (.lst [v1, u, .str ⟨#[c]⟩, fv])) := fun b o e => stay e n1
  have S1 := S.more s1
  have ne1 := S.ne n1
  refine ⟨_, rfl, p, _, 4, rfl, S1.b, by omega, by decide, by decide, fun r H2 r0 r1 hb2 k2 => ?_⟩
  have S2 := S1.but hb2 k2
  have s2 := same_tr (same_del (p := p) s1) (but_del k2)
  have hl1 := k2 _ _ ne1 upd_same
  have z : r = 0 ∨ r = 1 ∨ r = 2 ∨ r = 3 := by omega
  obtain ⟨nv, nd, en, dn, gn⟩ : ∃ nv nd, atI [v1, u, .str ⟨#[c]⟩, fv] r = some nv ∧ DV (del H2 p) nv nd ∧ Gd nd := by
    rcases z with rfl | rfl | rfl | rfl
    · exact ⟨_, _, rfl, dv1.more s2, gv1⟩
    · exact ⟨_, _, rfl, du.more s2, ge1⟩
    · exact ⟨_, _, rfl, .str _, gd_sign c200⟩
    · exact ⟨_, _, rfl, df.more s2, gd_ii (by omega) (by omega)⟩
  refine ⟨l1, _, _, nv, rfl, rfl, SqL.of hl1, en, ?_⟩
  exact go D a ns p L xs ds m q1 q4 q5 q6 i _ H2 hi hm ⟨v, nv, d, nd, _, _, _, _, rfl, S2.le (by omega), dv.more s2, dn, gd1, gn⟩ q
theorem tailB4 (gd : A.guards = some []) (hr : Room 8 (A.deeper (envOfC "law" (defScope sLaw) s.heap.objs.size f cdv))) (T0 : Txt0 mg) (R : Tr mg) (B : Tb mg) {fT : Addr} {fdT : FuncData} (GT : FnOk P w K mg base CX0 1 fT fdT ["_law_box_here", "_law_many"] spTake) (AT : At K mg "_law_take" fT fdT ["_law_box_here", "_law_many"]) {fCa : Addr} {fdCa : FuncData} (GCa : FnG P w K mg base 8 fCa fdCa ["_law_kind", "_law_one", "_law_other"] spTell) (ACa : At K mg "_law_caught" fCa fdCa ["_law_kind", "_law_one", "_law_other"]) {fDu : Addr} {fdDu : FuncData} (GDu : FnG P w K mg base 3 fDu fdDu ["_law_kind", "_law_one", "_law_other"] spTell) (ADu : At K mg "_law_due" fDu fdDu ["_law_kind", "_law_one", "_law_other"]) : TailB (XL P w K mg base f cdv A outer s H0 E) K 4 (RB5 K 6) := by
  obtain ⟨t, ht, go⟩ := tailB5 (P := P) (w := w) (K := K) (mg := mg) (base := base) (f := f) (cdv := cdv) (A := A) (outer := outer) (s := s) (H0 := H0) (E := E) gd hr T0 R B GT AT GCa ACa GDu ADu
  have gd : (A.deeper (envOfC "law" (defScope sLaw) s.heap.objs.size f cdv)).guards = some [] := gd
  have hu : (A.deeper (envOfC "law" (defScope sLaw) s.heap.objs.size f cdv)).units + 100 < cLine := by
    have := hr.un
    omega
  have hu64 : (A.deeper (envOfC "law" (defScope sLaw) s.heap.objs.size f cdv)).units + 64 < cLine := by omega
  refine ⟨_, pss_cons (ps_set (i := 8) scLaw.nd rfl (Or.inl rfl) (pe_ix ix_list (pe_lst (pa_cons (pe_ix ix_list (pv 3) pe_int (fun _ _ => rfl)) (pa_cons (pv 8) (pa_cons (pe_tup (pa_cons (pv 10) (pa_cons (pv 11) pa_nil))) pa_nil)))) (pe_call GT (hr.mono (by decide)) rfl AT.g AT.k AT.b .nil pass0 (pa_cons (pv 2) (pa_cons pe_int pa_nil))) (fun _ _ => rfl))) ht, ?_⟩
  rintro D a ns p L xs ds m q1 q4 q5 q6 i _ H hi hm ⟨v, u, d, e, x, y, fx, fy, fv, q13, rfl, S, dv, du, gd1, ge1, bx, by_, bf, bg, df⟩ q
  have ln := S.d.length
  have l2 := S.n2
  obtain ⟨v1, d1, ev1, dv1, gv1⟩ := S.pick (r := 0) (by decide) (by omega)
  refine ⟨_, rfl, L, _, _, v1, rfl, rfl, S.lst, ev1, _, rfl, _, rfl, _, rfl, (by show 2 ≤ sizeLine; decide), fun l0 n0 => ⟨(by show 3 ≤ sizeLine; decide), fun l1 n1 => ?_⟩⟩
  have s0 : Same H (upd H l0 (.tup [.int x, .int y])) := fun b o e => stay e n0
  have s1 : Same (upd H l0 (.tup [.int x, .int y])) (upd (upd H l0 (.tup [.int x, .int y])) l1 (.lst [v1, v, .ref l0])) := fun b o e => stay e n1
  have S0 := S.more s0
  have S1 := S0.more s1
  have ne0 := S.ne n0
  have ne1 := S0.ne n1
  refine ⟨_, rfl, p, _, 3, rfl, S1.b, by omega, by decide, by decide, fun r H2 r0 r1 hb2 k2 => ?_⟩
  have S2 := S1.but hb2 k2
  have s2 := same_tr (same_del (p := p) (same_tr s0 s1)) (but_del k2)
  have hl1 := k2 _ _ ne1 upd_same
  have z : r = 0 ∨ r = 1 ∨ r = 2 := by omega
  obtain ⟨nv, nd, en, dn, gn⟩ : ∃ nv nd, atI [v1, v, .ref l0] r = some nv ∧ DV (del H2 p) nv nd ∧ Gd nd := by
    rcases z with rfl | rfl | rfl
    · exact ⟨_, _, rfl, dv1.more s2, gv1⟩
    · exact ⟨_, _, rfl, dv.more s2, gd1⟩
    · refine ⟨_, .tuple [.int x, .int y], rfl, .tup (del_of (k2 _ _ ne0 (stay upd_same n1)) ne0) (.cons (.int _) (.cons (.int _) .nil)), gd_ii (by omega) (by omega)⟩
  refine ⟨l1, _, _, nv, rfl, rfl, SqL.of hl1, en, ?_⟩
  exact go D a ns p L xs ds m q1 q4 q5 q6 i _ H2 hi hm ⟨nv, u, nd, e, x, y, fx, fy, fv, _, rfl, S2.le (by omega), dn, du.more s2, gn, ge1, bx, by_, bf, bg, df.more s2⟩ q
theorem tailB3 (gd : A.guards = some []) (hr : Room 8 (A.deeper (envOfC "law" (defScope sLaw) s.heap.objs.size f cdv))) (T0 : Txt0 mg) (R : Tr mg) (B : Tb mg) {fT : Addr} {fdT : FuncData} (GT : FnOk P w K mg base CX0 1 fT fdT ["_law_box_here", "_law_many"] spTake) (AT : At K mg "_law_take" fT fdT ["_law_box_here", "_law_many"]) {fE : Addr} {fdE : FuncData} (GE : FnOk P w K mg base CX0 4 fE fdE ["value"] (spBf edgeB)) (AE : At K mg "is_edge" fE fdE ["value"]) {fLE : Addr} {fdLE : FuncData} (GLE : FnOk P w K mg base CX0 3 fLE fdLE ["_law_value"] (spB ledgeB)) (ALE : At K mg "_law_edge" fLE fdLE ["_law_value"]) {fCa : Addr} {fdCa : FuncData} (GCa : FnG P w K mg base 8 fCa fdCa ["_law_kind", "_law_one", "_law_other"] spTell) (ACa : At K mg "_law_caught" fCa fdCa ["_law_kind", "_law_one", "_law_other"]) {fDu : Addr} {fdDu : FuncData} (GDu : FnG P w K mg base 3 fDu fdDu ["_law_kind", "_law_one", "_law_other"] spTell) (ADu : At K mg "_law_due" fDu fdDu ["_law_kind", "_law_one", "_law_other"]) : TailB (XL P w K mg base f cdv A outer s H0 E) K 3 (RB5 K 6) := by
  obtain ⟨t, ht, go⟩ := tailB4 (P := P) (w := w) (K := K) (mg := mg) (base := base) (f := f) (cdv := cdv) (A := A) (outer := outer) (s := s) (H0 := H0) (E := E) gd hr T0 R B GT AT GCa ACa GDu ADu
  have gd : (A.deeper (envOfC "law" (defScope sLaw) s.heap.objs.size f cdv)).guards = some [] := gd
  have hu : (A.deeper (envOfC "law" (defScope sLaw) s.heap.objs.size f cdv)).units + 100 < cLine := by
    have := hr.un
    omega
  have hu64 : (A.deeper (envOfC "law" (defScope sLaw) s.heap.objs.size f cdv)).units + 64 < cLine := by omega
  refine ⟨_, pss_cons (ps_if (pt_cmpR op_ne (pe_callB (call_reprD gd hu) (by rfl) R.rep (by decide +kernel) (pa_cons (pe_call GE (hr.mono (by decide)) rfl AE.g AE.k AE.b .nil pass0 (pa_cons (pe_tup (pa_cons (pe_tup (pa_cons (pv 10) (pa_cons (pv 11) pa_nil))) (pa_cons (pv 12) pa_nil))) pa_nil)) pa_nil)) (pe_callB (call_reprD gd hu) (by rfl) R.rep (by decide +kernel) (pa_cons (pe_call GLE (hr.mono (by decide)) rfl ALE.g ALE.k ALE.b .nil pass0 (pa_cons (pe_tup (pa_cons (pe_tup (pa_cons (pv 10) (pa_cons (pv 11) pa_nil))) (pa_cons (pv 12) pa_nil))) pa_nil)) pa_nil)) (nomark _)) (pss_one (ps_ret pe_bl)) pss_nil) ht, ?_⟩
  rintro D a ns p L xs ds m q1 q4 q5 q6 i _ H hi hm ⟨v, u, d, e, x, y, fx, fy, fv, q13, rfl, S, dv, du, gd1, ge1, bx, by_, bf, bg, df⟩ q
  refine ⟨_, rfl, _, rfl, (by show 2 ≤ sizeLine; decide), fun p1 n1 => ⟨_, rfl, (by show 2 ≤ sizeLine; decide), fun p2 n2 => ?_⟩⟩
  have s1 : Same H (upd H p1 (.tup [.int x, .int y])) := fun b o e => stay e n1
  have s2 : Same (upd H p1 (.tup [.int x, .int y])) (upd (upd H p1 (.tup [.int x, .int y])) p2 (.tup [.ref p1, fv])) := fun b o e => stay e n2
  have t2 := same_tr s1 s2
  have df0 := df.more (of_del (p := p))
  have fl : flatP (.tuple [.tuple [.int x, .int y], .tuple [.int fx, .int fy]]) := by
    rintro _ _ h
    cases h
    exact ⟨rfl, shaped_ii _ _⟩
  have nb : Nice (.bool (edgeB (.tuple [.tuple [.int x, .int y], .tuple [.int fx, .int fy]]))) := nice_bl _
  refine ⟨.ref p2, .tuple [.tuple [.int x, .int y], .tuple [.int fx, .int fy]], rfl, .tup upd_same (.cons (.tup (stay upd_same n2) (.cons (.int _) (.cons (.int _) .nil))) (.cons (df0.more t2) .nil)), fl, fun H3 s3 => ?_⟩
  refine ⟨_, _, rfl, .bl _, nb, ?_⟩
  refine ⟨_, rfl, _, rfl, (by show 2 ≤ sizeLine; decide), fun p3 n3 => ⟨_, rfl, (by show 2 ≤ sizeLine; decide), fun p4 n4 => ?_⟩⟩
  have s4 : Same H3 (upd H3 p3 (.tup [.int x, .int y])) := fun b o e => stay e n3
  have s5 : Same (upd H3 p3 (.tup [.int x, .int y])) (upd (upd H3 p3 (.tup [.int x, .int y])) p4 (.tup [.ref p3, fv])) := fun b o e => stay e n4
  have t5 := same_tr t2 (same_tr s3 (same_tr s4 s5))
  refine ⟨.ref p4, .tuple [.tuple [.int x, .int y], .tuple [.int fx, .int fy]], rfl, .tup upd_same (.cons (.tup (stay upd_same n4) (.cons (.int _) (.cons (.int _) .nil))) (.cons (df0.more t5) .nil)), fun H6 s6 => ?_⟩
  rw [← edge_same]
  refine ⟨_, _, rfl, .bl _, nb, rfl, _, rfl, iteNS rfl ?_⟩
  have t6 := same_tr t5 s6
  exact go D a ns p L xs ds m q1 q4 q5 q6 i _ H6 hi hm ⟨v, u, d, e, x, y, fx, fy, fv, _, rfl, S.more t6, dv.more (same_del t6), du.more (same_del t6), gd1, ge1, bx, by_, bf, bg, df.more (same_del t6)⟩ q
def RB0 (K : PySem.W.Frag) : ∀ (a : Addr) (ns : List Int) (p L : Addr) (xs : List V) (ds : List PyData) (m : Int) (q1 q4 q5 q6 : Option V) (i : Int), L2.St → Hp → Prop := fun a ns p L xs ds m q1 q4 q5 q6 i σ H =>
  ∃ (q8 q9 q10 q11 q12 q13 : Option V), σ = [some (.ref a), q1, some (.ref p), some (.ref L), q4, q5, q6, some (.int i), q8, q9, q10, q11, q12, q13] ∧ Sta K a ns p L xs ds m H
theorem tailB0 (gd : A.guards = some []) (hr : Room 8 (A.deeper (envOfC "law" (defScope sLaw) s.heap.objs.size f cdv))) (T0 : Txt0 mg) (R : Tr mg) (B : Tb mg) {fT : Addr} {fdT : FuncData} (GT : FnOk P w K mg base CX0 1 fT fdT ["_law_box_here", "_law_many"] spTake) (AT : At K mg "_law_take" fT fdT ["_law_box_here", "_law_many"]) {fE : Addr} {fdE : FuncData} (GE : FnOk P w K mg base CX0 4 fE fdE ["value"] (spBf edgeB)) (AE : At K mg "is_edge" fE fdE ["value"]) {fLE : Addr} {fdLE : FuncData} (GLE : FnOk P w K mg base CX0 3 fLE fdLE ["_law_value"] (spB ledgeB)) (ALE : At K mg "_law_edge" fLE fdLE ["_law_value"]) {fCa : Addr} {fdCa : FuncData} (GCa : FnG P w K mg base 8 fCa fdCa ["_law_kind", "_law_one", "_law_other"] spTell) (ACa : At K mg "_law_caught" fCa fdCa ["_law_kind", "_law_one", "_law_other"]) {fDu : Addr} {fdDu : FuncData} (GDu : FnG P w K mg base 3 fDu fdDu ["_law_kind", "_law_one", "_law_other"] spTell) (ADu : At K mg "_law_due" fDu fdDu ["_law_kind", "_law_one", "_law_other"]) : TailB (XL P w K mg base f cdv A outer s H0 E) K 0 (RB0 K) := by
  obtain ⟨t, ht, go⟩ := tailB3 (P := P) (w := w) (K := K) (mg := mg) (base := base) (f := f) (cdv := cdv) (A := A) (outer := outer) (s := s) (H0 := H0) (E := E) gd hr T0 R B GT AT GE AE GLE ALE GCa ACa GDu ADu
  have gd : (A.deeper (envOfC "law" (defScope sLaw) s.heap.objs.size f cdv)).guards = some [] := gd
  have hu : (A.deeper (envOfC "law" (defScope sLaw) s.heap.objs.size f cdv)).units + 100 < cLine := by
    have := hr.un
    omega
  have hu64 : (A.deeper (envOfC "law" (defScope sLaw) s.heap.objs.size f cdv)).units + 64 < cLine := by omega
  refine ⟨_, pss_cons (ps_par (i := 8) (j := 9) rfl scLaw.nd rfl rfl (by decide) rfl rfl (pa_cons (pe_ix ix_list (pv 3) (pe_call GT (hr.mono (by decide)) rfl AT.g AT.k AT.b .nil pass0 (pa_cons (pv 2) (pa_cons (pe_callB call_len_seq (by rfl) T0.len PySem.boot_len (pa_cons (pv 3) pa_nil)) pa_nil))) (fun _ _ => rfl)) (pa_cons (pe_ix ix_list (pv 3) (pe_call GT (hr.mono (by decide)) rfl AT.g AT.k AT.b .nil pass0 (pa_cons (pv 2) (pa_cons (pe_callB call_len_seq (by rfl) T0.len PySem.boot_len (pa_cons (pv 3) pa_nil)) pa_nil))) (fun _ _ => rfl)) pa_nil)) rfl)
    (pss_cons (ps_par (i := 10) (j := 11) rfl scLaw.nd rfl rfl (by decide) rfl rfl (pa_cons (pe_call GT (hr.mono (by decide)) rfl AT.g AT.k AT.b .nil pass0 (pa_cons (pv 2) (pa_cons pe_int pa_nil))) (pa_cons (pe_call GT (hr.mono (by decide)) rfl AT.g AT.k AT.b .nil pass0 (pa_cons (pv 2) (pa_cons pe_int pa_nil))) pa_nil)) rfl)
    (pss_cons (ps_set (i := 12) scLaw.nd rfl (Or.inl rfl) (pe_tup (pa_cons (pe_op op_sub (pe_op op_add (pv 10) (pe_call GT (hr.mono (by decide)) rfl AT.g AT.k AT.b .nil pass0 (pa_cons (pv 2) (pa_cons pe_int pa_nil)))) pe_int) (pa_cons (pe_op op_sub (pe_op op_add (pv 11) (pe_call GT (hr.mono (by decide)) rfl AT.g AT.k AT.b .nil pass0 (pa_cons (pv 2) (pa_cons pe_int pa_nil)))) pe_int) pa_nil)))) ht)), ?_⟩
  rintro D a ns p L xs ds m q1 q4 q5 q6 i _ H hi hm ⟨q8, q9, q10, q11, q12, q13, rfl, S⟩ q
  have ln := S.d.length
  have l2 := S.n2
  have l3 := S.n100
  refine ⟨_, rfl, _, rfl, _, rfl, L, xs, rfl, .inl S.lst, p, m, (xs.length : Int), rfl, S.b, by omega, by omega, by omega, fun r1 H1 r10 r11 hb1 k1 => ?_⟩
  have S1 := S.but hb1 k1
  obtain ⟨v1, d1, ev1, dv1, gv1⟩ := S1.pick r10 r11
  refine ⟨L, _, _, v1, rfl, rfl, S1.lst, ev1, _, rfl, _, rfl, _, rfl, L, xs, rfl, .inl S1.lst, p, m + 1, (xs.length : Int), rfl, S1.b, by omega, by omega, by omega, fun r2 H2 r20 r21 hb2 k2 => ?_⟩
  have S2 := S1.but hb2 k2
  obtain ⟨v2, d2, ev2, dv2, gv2⟩ := S2.pick r20 r21
  refine ⟨L, _, _, v2, rfl, rfl, S2.lst, ev2, _, _, rfl, ?_⟩
  refine ⟨_, rfl, p, _, 31, rfl, S2.b, by omega, by decide, by decide, fun x H3 x0 x1 hb3 k3 => ?_⟩
  have S3 := S2.but hb3 k3
  refine ⟨_, rfl, p, _, 31, rfl, S3.b, by omega, by decide, by decide, fun y H4 y0 y1 hb4 k4 => ⟨_, _, rfl, ?_⟩⟩
  have S4 := S3.but hb4 k4
  refine ⟨_, rfl, _, rfl, p, _, 7, rfl, S4.b, by omega, by decide, by decide, fun r5 H5 r50 r51 hb5 k5 => ⟨_, _, rfl, rfl, _, _, rfl, rfl, ?_⟩⟩
  have S5 := S4.but hb5 k5
  refine ⟨_, rfl, _, rfl, p, _, 7, rfl, S5.b, by omega, by decide, by decide, fun r6 H6 r60 r61 hb6 k6 => ⟨_, _, rfl, rfl, _, _, rfl, rfl, (by show 2 ≤ sizeLine; decide), fun a6 n6 => ?_⟩⟩
  have S6 := S5.but hb6 k6
  have ne6 := S6.ne n6
  have s6 : Same H6 (upd H6 a6 (.tup [.int (x + r5 - 3), .int (y + r6 - 3)])) := fun b o e => stay e n6
  have S7 := S6.more s6
  have t1 := same_tr (but_del k2) (same_tr (but_del k3) (same_tr (but_del k4) (same_tr (but_del k5) (same_tr (but_del k6) (same_del (p := p) s6)))))
  have t2 := same_tr (but_del k3) (same_tr (but_del k4) (same_tr (but_del k5) (same_tr (but_del k6) (same_del (p := p) s6))))
  exact go D a ns p L xs ds m q1 q4 q5 q6 i _ _ hi hm ⟨v1, v2, d1, d2, x, y, x + r5 - 3, y + r6 - 3, .ref a6, _, rfl, S7.le (by omega), dv1.more t1, dv2.more t2, gv1, gv2, by omega, by omega, by omega, by omega, .tup (del_of upd_same ne6) (.cons (.int _) (.cons (.int _) .nil))⟩ q
end
section
variable {P : Program} {w : World} {K : PySem.W.Frag} {mg : Str → Option Value} {base : Heap}
theorem ok_law {f : Addr} {fd : FuncData} (F : Fun K "law" "law" sLaw f fd) (T0 : Txt0 mg) (R : Tr mg) (B : Tb mg) (M : Tm mg)
    {fC : Addr} {fdC : FuncData} (GC : FnOk P w K mg base CX0 1 fC fdC ["_law_script", "_law_k"] (spCell K)) (AC : At K mg "_law_cell_at" fC fdC ["_law_script", "_law_k"]) {fB : Addr} {fdB : FuncData} (GB : FnOk P w K mg base CX0 1 fB fdB ["_law_number"] spBox) (AB : At K mg "_law_box" fB fdB ["_law_number"]) {fT : Addr} {fdT : FuncData} (GT : FnOk P w K mg base CX0 1 fT fdT ["_law_box_here", "_law_many"] spTake) (AT : At K mg "_law_take" fT fdT ["_law_box_here", "_law_many"]) {fV : Addr} {fdV : FuncData} (GV : FnOk P w K mg base CX0 2 fV fdV ["_law_box_here"] spVal) (AV : At K mg "_law_values" fV fdV ["_law_box_here"]) {fI : Addr} {fdI : FuncData} (GI : FnOk P w K mg base CX0 1 fI fdI ["value"] (spB intB)) (AI : At K mg "is_integer" fI fdI ["value"]) {fP : Addr} {fdP : FuncData} (GP : FnOk P w K mg base CX0 3 fP fdP ["value"] (spB ptB)) (AP : At K mg "is_point" fP fdP ["value"]) {fD : Addr} {fdD : FuncData} (GD : FnOk P w K mg base CX0 1 fD fdD ["value"] (spB dirB)) (AD : At K mg "is_direction" fD fdD ["value"]) {fE : Addr} {fdE : FuncData} (GE : FnOk P w K mg base CX0 4 fE fdE ["value"] (spBf edgeB)) (AE : At K mg "is_edge" fE fdE ["value"]) {fLI : Addr} {fdLI : FuncData} (GLI : FnOk P w K mg base CX0 1 fLI fdLI ["_law_value"] (spB intB)) (ALI : At K mg "_law_integer" fLI fdLI ["_law_value"]) {fLP : Addr} {fdLP : FuncData} (GLP : FnOk P w K mg base CX0 2 fLP fdLP ["_law_value"] (spB ptB)) (ALP : At K mg "_law_point" fLP fdLP ["_law_value"]) {fLL : Addr} {fdLL : FuncData} (GLL : FnOk P w K mg base CX0 1 fLL fdLL ["_law_value"] (spBs dirB)) (ALL : At K mg "_law_is_letter" fLL fdLL ["_law_value"]) {fLE : Addr} {fdLE : FuncData} (GLE : FnOk P w K mg base CX0 3 fLE fdLE ["_law_value"] (spB ledgeB)) (ALE : At K mg "_law_edge" fLE fdLE ["_law_value"]) {fCa : Addr} {fdCa : FuncData} (GCa : FnG P w K mg base 8 fCa fdCa ["_law_kind", "_law_one", "_law_other"] spTell) (ACa : At K mg "_law_caught" fCa fdCa ["_law_kind", "_law_one", "_law_other"]) {fDu : Addr} {fdDu : FuncData} (GDu : FnG P w K mg base 3 fDu fdDu ["_law_kind", "_law_one", "_law_other"] spTell) (ADu : At K mg "_law_due" fDu fdDu ["_law_kind", "_law_one", "_law_other"]) : FnG P w K mg base 9 f fd ["_law_script"] (spLaw K) := by
  refine FnG.made F scLaw (fun vs H Q E h => ?_) (fun cdv A outer s H vs Q E gd hr h => ?_)
  · obtain ⟨a, ns, rfl, _⟩ := h
    rfl
  · obtain ⟨a, ns, rfl, hS, hlen, q⟩ := h
    obtain ⟨tA, hA, goA⟩ := partA (P := P) (w := w) (K := K) (mg := mg) (base := base) (f := f) (cdv := cdv) (A := A) (outer := outer) (s := s) (H0 := H) (E := E) gd hr T0 R B GI AI GP AP GD AD GE AE GLI ALI GLP ALP GLL ALL GLE ALE
    obtain ⟨tB, hB, goB⟩ := tailB0 (P := P) (w := w) (K := K) (mg := mg) (base := base) (f := f) (cdv := cdv) (A := A) (outer := outer) (s := s) (H0 := H) (E := E) gd hr T0 R B GT AT GE AE GLE ALE GCa ACa GDu ADu
    refine ⟨_, (pss_cons (ps_for PassesOwn.never rfl (pi_range1 rfl B.rng (pa_cons (pe_callB (call_max2 rfl) (by rfl) T0.max (by decide +kernel) (pa_cons pe_int (pa_cons (pe_callB (call_min2 rfl) (by rfl) M.min (by decide +kernel) (pa_cons pe_int (pa_cons (pe_callB call_len_seq (by rfl) T0.len PySem.boot_len (pa_cons (pv 0) pa_nil)) pa_nil))) pa_nil))) pa_nil)) (pg_name (i := 1) scLaw.nd rfl (Or.inl rfl)) (pss_cons (ps_set (i := 2) scLaw.nd rfl (Or.inl rfl) (pe_call GB (hr.mono (by decide)) rfl AB.g AB.k AB.b .nil pass0 (pa_cons (pe_call GC (hr.mono (by decide)) rfl AC.g AC.k AC.b .nil pass0 (pa_cons (pv 0) (pa_cons (pv 1) pa_nil))) pa_nil)))
      (pss_cons (ps_set (i := 3) scLaw.nd rfl (Or.inl rfl) (pe_call GV (hr.mono (by decide)) rfl AV.g AV.k AV.b .nil pass0 (pa_cons (pv 2) pa_nil)))
      (pss_cons (ps_for PassesOwn.never rfl (pi_list (pe_op op_cat (pv 3) (pe_revL (pv 3)))) (pg_name (i := 4) scLaw.nd rfl (Or.inl rfl)) hA)
      (pss_one (ps_for PassesOwn.never rfl (pi_range1 rfl B.rng (pa_cons pe_int pa_nil)) (pg_name (i := 7) scLaw.nd rfl (Or.inl rfl)) hB))))))
      (pss_one (ps_ret pe_bl))), ?_⟩
    refine ⟨_, rfl, a, _, rfl, .inl hS, _, _, rfl, _, _, rfl, _, rfl, (rng_ok _).1, (rng_ok _).2.1, ?_⟩
    refine for_range (lo := 0) (fun i σ H' => ∃ o1 o2 o3 o4 o5 o6 o7 o8 o9 o10 o11 o12 o13 : Option V, σ = [some (.ref a), o1, o2, o3, o4, o5, o6, o7, o8, o9, o10, o11, o12, o13] ∧ SqL K H' a (ns.map V.int)) ⟨_, _, _, _, _, _, _, _, _, _, _, _, _, rfl, hS⟩ ?_ ?_
    · rintro i σ H1 hi ⟨o1, o2, o3, o4, o5, o6, o7, o8, o9, o10, o11, o12, o13, rfl, hS1⟩
      have i8 : i < 8 := Nat.lt_of_lt_of_le hi (rng_ok _).2.2
      refine ⟨_, rfl, _, rfl, a, ns, _, rfl, hS1, by omega, by omega, fun n0 => ⟨n0, rfl, fun p H2 np sm2 hb2 => ?_⟩⟩
      have far2 : Far K H2 a (ns.map V.int) p := Far.of hS1 np sm2
      refine ⟨_, rfl, p, 0, rfl, hb2, by decide, fun L xs ds H3 n2 n100 gds hl dvs hb3 k3 => ?_⟩
      have S3 : Sta K a ns p L xs ds 10 H3 := ⟨far2.del k3, hb3.le (by omega), hl, dvs, gds, n2, n100⟩
      have ln := dvs.length
      have hl3 := of_del _ _ hl
      refine ⟨_, rfl, _, rfl, L, xs, rfl, SqL.of hl3, fun r4 n4 => ?_⟩
      have s4 : Same H3 (upd H3 r4 (.lst xs.reverse)) := fun b o e => stay e n4
      refine ⟨L, r4, xs, xs.reverse, rfl, rfl, s4 _ _ hl3, upd_same, ?_, fun r5 n5 => ?_⟩
      · rw [List.length_reverse]
        exact Nat.le_trans (show xs.length + xs.length ≤ 200 by omega) (by decide)
      have s5 : Same H3 (upd (upd H3 r4 (.lst xs.reverse)) r5 (.lst (xs ++ xs.reverse))) := fun b o e => stay (s4 b o e) n5
      have ne5 : r5 ≠ p := (S3.more s4).ne n5
      refine ⟨r5, rfl, ⟨_, SqL.of upd_same⟩, ?_⟩
      refine for_list (K := K) (a := r5) (xs := xs ++ xs.reverse) (fun j σ H' => ∃ o4 o5 o6 : Option V, σ = [some (.ref a), some (.int (0 + (i : Int))), some (.ref p), some (.ref L), o4, o5, o6, o7, o8, o9, o10, o11, o12, o13] ∧ Sta K a ns p L xs ds 10 H' ∧ H' r5 = some (.lst (xs ++ xs.reverse))) ⟨_, _, _, rfl, S3.more s5, upd_same⟩ ?_ ?_ ?_
      · rintro j σ H4 hj ⟨o4, o5, o6, rfl, S4, h5⟩
        exact SqL.of h5
      · rintro j v σ H4 hv ⟨o4, o5, o6, rfl, S4, h5⟩
        have mv : v ∈ xs := by
          have := List.mem_of_getElem? hv
          rw [List.mem_append, List.mem_reverse] at this
          exact this.elim id id
        obtain ⟨k, hk⟩ := List.mem_iff_getElem?.mp mv
        obtain ⟨d, hd, dv⟩ := S4.d.at k v hk
        exact goA _ H4 v d _ _ _ _ _ _ _ _ _ _ _ _ _ (dv.more of_del) (S4.g d (List.mem_of_getElem? hd)) fun H5 q5 q6 s5 => ⟨_, _, _, rfl, S4.more s5, s5 _ _ h5⟩
      · rintro σ H4 ⟨o4, o5, o6, rfl, S4, h5⟩
        refine ⟨30, rfl, by decide, by decide, for_range (lo := 0) (n := 30) (fun j σ H' => ∃ o7 o8 o9 o10 o11 o12 o13 : Option V, σ = [some (.ref a), some (.int (0 + (i : Int))), some (.ref p), some (.ref L), o4, o5, o6, o7, o8, o9, o10, o11, o12, o13] ∧ Sta K a ns p L xs ds (10 + 8 * j) H') ⟨_, _, _, _, _, _, _, rfl, S4.le (by omega)⟩ ?_ ?_⟩
        · rintro j σ H5 hj ⟨o7, o8, o9, o10, o11, o12, o13, rfl, S5⟩
          refine goB _ a ns p L xs ds (10 + 8 * j) _ o4 o5 o6 (0 + (j : Int)) _ H5 (by omega) (by omega) ⟨_, _, _, _, _, _, rfl, S5⟩ ?_
          exact fun H6 q8 q9 q10 q11 q12 q13 S6 => ⟨_, _, _, _, _, _, _, rfl, S6.le (by omega)⟩
        · rintro σ H5 ⟨o7, o8, o9, o10, o11, o12, o13, rfl, S5⟩
          exact ⟨_, _, _, _, _, _, _, _, _, _, _, _, _, rfl, S5.far.seq⟩
    · rintro σ H1 ⟨o1, o2, o3, o4, o5, o6, o7, o8, o9, o10, o11, o12, o13, rfl, _⟩
      exact q H1
end
end K1
set_option Elab.async false
set_option linter.all false
set_option maxRecDepth 100000
set_option maxHeartbeats 16000000
namespace K1
open PySem PySem.Spec PyProof.Rows L2 Nv
def intK (u : Option (Option Value)) (i : Int) : Bool := match u with
  | some (some (.int j _)) => decide (j = i)
  | _ => false
theorem intK_of {u : Option (Option Value)} {i : Int} (h : intK u i = true) : ∃ t, u = some (some (.int i t)) := by
  unfold intK at h
  split at h
  · exact ⟨_, by rw [of_decide_eq_true h]⟩
  · cases h
def tabB (K : PySem.W.Frag) (fI : Addr) (cs : List Addr) : Bool :=
  metaB K fI && ((List.range 3).all fun i => classB K (cs.getD i 0) fI && (List.range 3).all fun j => PySem.W.exmOne K (.ref (cs.getD i 0)) (.ref (cs.getD j 0)) == some (decide (i = j)))
theorem tab_of {K : PySem.W.Frag} {mg : Str → Option Value} {fI : Addr} {cs : List Addr} (z : tabB K fI cs = true) (gl : ∀ i, i < 4 → mg (nms i) = some (.ref (cs.getD i 0))) : Tx K mg (fun i => cs.getD i 0) fI := by
  unfold tabB at z
  simp only [Bool.and_eq_true] at z
  obtain ⟨m, r⟩ := z
  have row : ∀ i, i < 3 → (classB K (cs.getD i 0) fI && (List.range 3).all fun j => PySem.W.exmOne K (.ref (cs.getD i 0)) (.ref (cs.getD j 0)) == some (decide (i = j))) = true := fun i hi => List.all_eq_true.mp r i (List.mem_range.mpr hi)
  refine ⟨fun i hi => class_of (Bool.and_eq_true_iff.mp (row i hi)).1 m, gl, fun i j hi hj => ?_⟩
  exact beq_iff_eq.mp (List.all_eq_true.mp (Bool.and_eq_true_iff.mp (row i hi)).2 j (List.mem_range.mpr hj))

theorem all_mk {P : Program} {w : World} {K : PySem.W.Frag} {h : Heap} {mg : Str → Option Value} {fa fI C0 C1 C2 C3 aS aW aO f0 f1 f2 f3 f4 f5 f6 f7 f8 f9 f10 f11 f12 f13 f14 f15 f16 f17 f18 f19 f20 f21 f22 f23 f24 : Addr} (X : K.In h) (G : h.Ns mainGlobals mg) (hfa : mg "law" = some (.ref fa))
    {od0 an0 od1 an1 od2 an2 od3 an3 od4 an4 od5 an5 od6 an6 od7 an7 od8 an8 od9 an9 od10 an10 od11 an11 od12 an12 od13 an13 od14 an14 od15 an15 od16 an16 od17 an17 od18 an18 od19 an19 od20 an20 od21 an21 od22 an22 od23 an23 od24 an24 odI anI : Option Addr} {sl0 sl1 sl2 sl3 sl4 sl5 sl6 sl7 sl8 sl9 sl10 sl11 sl12 sl13 sl14 sl15 sl16 sl17 sl18 sl19 sl20 sl21 sl22 sl23 sl24 slI : Array (Option Value)} {oc0 kV0 dc0 pm0 cd0 ct0 oc1 kV1 dc1 pm1 cd1 ct1 oc2 kV2 dc2 pm2 cd2 ct2 oc3 kV3 dc3 pm3 cd3 ct3 oc4 kV4 dc4 pm4 cd4 ct4 oc5 kV5 dc5 pm5 cd5 ct5 oc6 kV6 dc6 pm6 cd6 ct6 oc7 kV7 dc7 pm7 cd7 ct7 oc8 kV8 dc8 pm8 cd8 ct8 oc9 kV9 dc9 pm9 cd9 ct9 oc10 kV10 dc10 pm10 cd10 ct10 oc11 kV11 dc11 pm11 cd11 ct11 oc12 kV12 dc12 pm12 cd12 ct12 oc13 kV13 dc13 pm13 cd13 ct13 oc14 kV14 dc14 pm14 cd14 ct14 oc15 kV15 dc15 pm15 cd15 ct15 oc16 kV16 dc16 pm16 cd16 ct16 oc17 kV17 dc17 pm17 cd17 ct17 oc18 kV18 dc18 pm18 cd18 ct18 oc19 kV19 dc19 pm19 cd19 ct19 oc20 kV20 dc20 pm20 cd20 ct20 oc21 kV21 dc21 pm21 cd21 ct21 oc22 kV22 dc22 pm22 cd22 ct22 oc23 kV23 dc23 pm23 cd23 ct23 oc24 kV24 dc24 pm24 cd24 ct24 ocI kVI dcI pmI cdI ctI : Value}
    (e0 : PySem.W.nsIn K mainGlobals "InvalidDirection" = some (some (.ref C0)))
    (e1 : PySem.W.nsIn K mainGlobals "InvalidPoint" = some (some (.ref C1)))
    (e2 : PySem.W.nsIn K mainGlobals "InvalidEdge" = some (some (.ref C2)))
    (e3 : PySem.W.nsIn K mainGlobals "NevercrossedError" = some (some (.ref C3)))
    (aI : PySem.W.findIn K (.ref C3) "__init__" = some (some (.ref fI))) (lI : K.lookup fI = some ⟨ocI, odI, .func (PySem.W.fnOf "__init__" "NevercrossedError.__init__" (defArgs sIni) (defBody sIni) (defScope sIni) .none kVI dcI pmI anI cdI ctI), slI⟩) (cI : PySem.W.codeIn K cdI "NevercrossedError.__init__" = true) (kI : PySem.W.keepIn K (.ref fI) = true)
    (a0 : PySem.W.nsIn K mainGlobals "is_integer" = some (some (.ref f0))) (l0 : K.lookup f0 = some ⟨oc0, od0, .func (PySem.W.fnOf "is_integer" "is_integer" (defArgs (top 11)) (defBody (top 11)) (defScope (top 11)) .none kV0 dc0 pm0 an0 cd0 ct0), sl0⟩) (c0 : PySem.W.codeIn K cd0 "is_integer" = true) (k0 : PySem.W.keepIn K (.ref f0) = true)
    (a1 : PySem.W.nsIn K mainGlobals "is_point" = some (some (.ref f1))) (l1 : K.lookup f1 = some ⟨oc1, od1, .func (PySem.W.fnOf "is_point" "is_point" (defArgs (top 12)) (defBody (top 12)) (defScope (top 12)) .none kV1 dc1 pm1 an1 cd1 ct1), sl1⟩) (c1 : PySem.W.codeIn K cd1 "is_point" = true) (k1 : PySem.W.keepIn K (.ref f1) = true)
    (a2 : PySem.W.nsIn K mainGlobals "is_direction" = some (some (.ref f2))) (l2 : K.lookup f2 = some ⟨oc2, od2, .func (PySem.W.fnOf "is_direction" "is_direction" (defArgs (top 13)) (defBody (top 13)) (defScope (top 13)) .none kV2 dc2 pm2 an2 cd2 ct2), sl2⟩) (c2 : PySem.W.codeIn K cd2 "is_direction" = true) (k2 : PySem.W.keepIn K (.ref f2) = true)
    (a3 : PySem.W.nsIn K mainGlobals "is_edge" = some (some (.ref f3))) (l3 : K.lookup f3 = some ⟨oc3, od3, .func (PySem.W.fnOf "is_edge" "is_edge" (defArgs (top 14)) (defBody (top 14)) (defScope (top 14)) .none kV3 dc3 pm3 an3 cd3 ct3), sl3⟩) (c3 : PySem.W.codeIn K cd3 "is_edge" = true) (k3 : PySem.W.keepIn K (.ref f3) = true)
    (a4 : PySem.W.nsIn K mainGlobals "edge_number" = some (some (.ref f4))) (l4 : K.lookup f4 = some ⟨oc4, od4, .func (PySem.W.fnOf "edge_number" "edge_number" (defArgs (top 15)) (defBody (top 15)) (defScope (top 15)) .none kV4 dc4 pm4 an4 cd4 ct4), sl4⟩) (c4 : PySem.W.codeIn K cd4 "edge_number" = true) (k4 : PySem.W.keepIn K (.ref f4) = true)
    (a5 : PySem.W.nsIn K mainGlobals "beside" = some (some (.ref f5))) (l5 : K.lookup f5 = some ⟨oc5, od5, .func (PySem.W.fnOf "beside" "beside" (defArgs (top 16)) (defBody (top 16)) (defScope (top 16)) .none kV5 dc5 pm5 an5 cd5 ct5), sl5⟩) (c5 : PySem.W.codeIn K cd5 "beside" = true) (k5 : PySem.W.keepIn K (.ref f5) = true)
    (a6 : PySem.W.nsIn K mainGlobals "direction_between" = some (some (.ref f6))) (l6 : K.lookup f6 = some ⟨oc6, od6, .func (PySem.W.fnOf "direction_between" "direction_between" (defArgs (top 17)) (defBody (top 17)) (defScope (top 17)) .none kV6 dc6 pm6 an6 cd6 ct6), sl6⟩) (c6 : PySem.W.codeIn K cd6 "direction_between" = true) (k6 : PySem.W.keepIn K (.ref f6) = true)
    (a7 : PySem.W.nsIn K mainGlobals "way_between" = some (some (.ref f7))) (l7 : K.lookup f7 = some ⟨oc7, od7, .func (PySem.W.fnOf "way_between" "way_between" (defArgs (top 18)) (defBody (top 18)) (defScope (top 18)) .none kV7 dc7 pm7 an7 cd7 ct7), sl7⟩) (c7 : PySem.W.codeIn K cd7 "way_between" = true) (k7 : PySem.W.keepIn K (.ref f7) = true)
    (a8 : PySem.W.nsIn K mainGlobals "edge_between" = some (some (.ref f8))) (l8 : K.lookup f8 = some ⟨oc8, od8, .func (PySem.W.fnOf "edge_between" "edge_between" (defArgs (top 19)) (defBody (top 19)) (defScope (top 19)) .none kV8 dc8 pm8 an8 cd8 ct8), sl8⟩) (c8 : PySem.W.codeIn K cd8 "edge_between" = true) (k8 : PySem.W.keepIn K (.ref f8) = true)
    (a9 : PySem.W.nsIn K mainGlobals "opposite" = some (some (.ref f9))) (l9 : K.lookup f9 = some ⟨oc9, od9, .func (PySem.W.fnOf "opposite" "opposite" (defArgs (top 20)) (defBody (top 20)) (defScope (top 20)) .none kV9 dc9 pm9 an9 cd9 ct9), sl9⟩) (c9 : PySem.W.codeIn K cd9 "opposite" = true) (k9 : PySem.W.keepIn K (.ref f9) = true)
    (a10 : PySem.W.nsIn K mainGlobals "_has_truth" = some (some (.ref f10))) (l10 : K.lookup f10 = some ⟨oc10, od10, .func (PySem.W.fnOf "_has_truth" "_has_truth" (defArgs (top 21)) (defBody (top 21)) (defScope (top 21)) .none kV10 dc10 pm10 an10 cd10 ct10), sl10⟩) (c10 : PySem.W.codeIn K cd10 "_has_truth" = true) (k10 : PySem.W.keepIn K (.ref f10) = true)
    (a11 : PySem.W.nsIn K mainGlobals "_check_point" = some (some (.ref f11))) (l11 : K.lookup f11 = some ⟨oc11, od11, .func (PySem.W.fnOf "_check_point" "_check_point" (defArgs (top 22)) (defBody (top 22)) (defScope (top 22)) .none kV11 dc11 pm11 an11 cd11 ct11), sl11⟩) (c11 : PySem.W.codeIn K cd11 "_check_point" = true) (k11 : PySem.W.keepIn K (.ref f11) = true)
    (a12 : PySem.W.nsIn K mainGlobals "_check_direction" = some (some (.ref f12))) (l12 : K.lookup f12 = some ⟨oc12, od12, .func (PySem.W.fnOf "_check_direction" "_check_direction" (defArgs (top 23)) (defBody (top 23)) (defScope (top 23)) .none kV12 dc12 pm12 an12 cd12 ct12), sl12⟩) (c12 : PySem.W.codeIn K cd12 "_check_direction" = true) (k12 : PySem.W.keepIn K (.ref f12) = true)
    (a13 : PySem.W.nsIn K mainGlobals "_law_cell_at" = some (some (.ref f13))) (l13 : K.lookup f13 = some ⟨oc13, od13, .func (PySem.W.fnOf "_law_cell_at" "_law_cell_at" (defArgs sCell) (defBody sCell) (defScope sCell) .none kV13 dc13 pm13 an13 cd13 ct13), sl13⟩) (c13 : PySem.W.codeIn K cd13 "_law_cell_at" = true) (k13 : PySem.W.keepIn K (.ref f13) = true)
    (a14 : PySem.W.nsIn K mainGlobals "_law_box" = some (some (.ref f14))) (l14 : K.lookup f14 = some ⟨oc14, od14, .func (PySem.W.fnOf "_law_box" "_law_box" (defArgs sBox) (defBody sBox) (defScope sBox) .none kV14 dc14 pm14 an14 cd14 ct14), sl14⟩) (c14 : PySem.W.codeIn K cd14 "_law_box" = true) (k14 : PySem.W.keepIn K (.ref f14) = true)
    (a15 : PySem.W.nsIn K mainGlobals "_law_take" = some (some (.ref f15))) (l15 : K.lookup f15 = some ⟨oc15, od15, .func (PySem.W.fnOf "_law_take" "_law_take" (defArgs sTake) (defBody sTake) (defScope sTake) .none kV15 dc15 pm15 an15 cd15 ct15), sl15⟩) (c15 : PySem.W.codeIn K cd15 "_law_take" = true) (k15 : PySem.W.keepIn K (.ref f15) = true)
    (a16 : PySem.W.nsIn K mainGlobals "_law_integer" = some (some (.ref f16))) (l16 : K.lookup f16 = some ⟨oc16, od16, .func (PySem.W.fnOf "_law_integer" "_law_integer" (defArgs (top 28)) (defBody (top 28)) (defScope (top 28)) .none kV16 dc16 pm16 an16 cd16 ct16), sl16⟩) (c16 : PySem.W.codeIn K cd16 "_law_integer" = true) (k16 : PySem.W.keepIn K (.ref f16) = true)
    (a17 : PySem.W.nsIn K mainGlobals "_law_point" = some (some (.ref f17))) (l17 : K.lookup f17 = some ⟨oc17, od17, .func (PySem.W.fnOf "_law_point" "_law_point" (defArgs (top 29)) (defBody (top 29)) (defScope (top 29)) .none kV17 dc17 pm17 an17 cd17 ct17), sl17⟩) (c17 : PySem.W.codeIn K cd17 "_law_point" = true) (k17 : PySem.W.keepIn K (.ref f17) = true)
    (a18 : PySem.W.nsIn K mainGlobals "_law_near" = some (some (.ref f18))) (l18 : K.lookup f18 = some ⟨oc18, od18, .func (PySem.W.fnOf "_law_near" "_law_near" (defArgs (top 30)) (defBody (top 30)) (defScope (top 30)) .none kV18 dc18 pm18 an18 cd18 ct18), sl18⟩) (c18 : PySem.W.codeIn K cd18 "_law_near" = true) (k18 : PySem.W.keepIn K (.ref f18) = true)
    (a19 : PySem.W.nsIn K mainGlobals "_law_edge" = some (some (.ref f19))) (l19 : K.lookup f19 = some ⟨oc19, od19, .func (PySem.W.fnOf "_law_edge" "_law_edge" (defArgs (top 31)) (defBody (top 31)) (defScope (top 31)) .none kV19 dc19 pm19 an19 cd19 ct19), sl19⟩) (c19 : PySem.W.codeIn K cd19 "_law_edge" = true) (k19 : PySem.W.keepIn K (.ref f19) = true)
    (a20 : PySem.W.nsIn K mainGlobals "_law_values" = some (some (.ref f20))) (l20 : K.lookup f20 = some ⟨oc20, od20, .func (PySem.W.fnOf "_law_values" "_law_values" (defArgs (top 32)) (defBody (top 32)) (defScope (top 32)) .none kV20 dc20 pm20 an20 cd20 ct20), sl20⟩) (c20 : PySem.W.codeIn K cd20 "_law_values" = true) (k20 : PySem.W.keepIn K (.ref f20) = true)
    (a21 : PySem.W.nsIn K mainGlobals "_law_caught" = some (some (.ref f21))) (l21 : K.lookup f21 = some ⟨oc21, od21, .func (PySem.W.fnOf "_law_caught" "_law_caught" (defArgs (top 33)) (defBody (top 33)) (defScope (top 33)) .none kV21 dc21 pm21 an21 cd21 ct21), sl21⟩) (c21 : PySem.W.codeIn K cd21 "_law_caught" = true) (k21 : PySem.W.keepIn K (.ref f21) = true)
    (a22 : PySem.W.nsIn K mainGlobals "_law_is_letter" = some (some (.ref f22))) (l22 : K.lookup f22 = some ⟨oc22, od22, .func (PySem.W.fnOf "_law_is_letter" "_law_is_letter" (defArgs (top 34)) (defBody (top 34)) (defScope (top 34)) .none kV22 dc22 pm22 an22 cd22 ct22), sl22⟩) (c22 : PySem.W.codeIn K cd22 "_law_is_letter" = true) (k22 : PySem.W.keepIn K (.ref f22) = true)
    (a23 : PySem.W.nsIn K mainGlobals "_law_due" = some (some (.ref f23))) (l23 : K.lookup f23 = some ⟨oc23, od23, .func (PySem.W.fnOf "_law_due" "_law_due" (defArgs (top 35)) (defBody (top 35)) (defScope (top 35)) .none kV23 dc23 pm23 an23 cd23 ct23), sl23⟩) (c23 : PySem.W.codeIn K cd23 "_law_due" = true) (k23 : PySem.W.keepIn K (.ref f23) = true)
    (a24 : PySem.W.nsIn K mainGlobals "law" = some (some (.ref f24))) (l24 : K.lookup f24 = some ⟨oc24, od24, .func (PySem.W.fnOf "law" "law" (defArgs sLaw) (defBody sLaw) (defScope sLaw) .none kV24 dc24 pm24 an24 cd24 ct24), sl24⟩) (c24 : PySem.W.codeIn K cd24 "law" = true) (k24 : PySem.W.keepIn K (.ref f24) = true)
    (z_isinstance : PySem.W.nsIn K mainGlobals "isinstance" = some none)
    (z_int : PySem.W.nsIn K mainGlobals "int" = some none)
    (z_bool : PySem.W.nsIn K mainGlobals "bool" = some none)
    (z_tuple : PySem.W.nsIn K mainGlobals "tuple" = some none)
    (z_str : PySem.W.nsIn K mainGlobals "str" = some none)
    (z_len : PySem.W.nsIn K mainGlobals "len" = some none)
    (z_min : PySem.W.nsIn K mainGlobals "min" = some none)
    (z_max : PySem.W.nsIn K mainGlobals "max" = some none)
    (z_repr : PySem.W.nsIn K mainGlobals "repr" = some none)
    (z_range : PySem.W.nsIn K mainGlobals "range" = some none)
    (tL : intK (PySem.W.nsIn K mainGlobals "LAST") 30 = true) (tS : intK (PySem.W.nsIn K mainGlobals "SIDE") 31 = true)
    (gS : PySem.W.nsIn K mainGlobals "STEPS" = some (some (.ref aS))) (dS : He.dicW K aS = some (He.keysIn w.params ["r", "u", "l", "d"]))
    (sr : pairK K (PySem.W.nsIn K aS "r") 1 0 = true) (su : pairK K (PySem.W.nsIn K aS "u") 0 1 = true) (sl : pairK K (PySem.W.nsIn K aS "l") (-1) 0 = true) (sd : pairK K (PySem.W.nsIn K aS "d") 0 (-1) = true)
    (gW : PySem.W.nsIn K mainGlobals "WAYS" = some (some (.ref aW))) (tW : wayTab K aW = true)
    (gO : PySem.W.nsIn K mainGlobals "OPPOSITES" = some (some (.ref aO))) (dO : He.dicW K aO = some (He.keysIn w.params ["r", "u", "l", "d"]))
    (pr : strK (PySem.W.nsIn K aO "r") "l" = true) (pu : strK (PySem.W.nsIn K aO "u") "d" = true) (pl : strK (PySem.W.nsIn K aO "l") "r" = true) (pd : strK (PySem.W.nsIn K aO "d") "u" = true)
    (tb : tabB K fI [C0, C1, C2, C3] = true) :
    ∃ fd : FuncData, (∀ (s : Shared) (v : Value), BindsTo s fd ⟨[v], []⟩ [("_law_script", v)]) ∧ ∀ base : Heap, K.In base → base.Ns mainGlobals mg → FnG P w K mg base 9 fa fd ["_law_script"] (spLaw K) := by
  have e := hfa.symm.trans (PySem.W.mg_of X G a24)
  cases e
  have gl : ∀ i, i < 4 → mg (nms i) = some (.ref ([C0, C1, C2, C3].getD i 0)) := fun i hi => match i, hi with
    | 0, _ => PySem.W.mg_of X G e0
    | 1, _ => PySem.W.mg_of X G e1
    | 2, _ => PySem.W.mg_of X G e2
    | 3, _ => PySem.W.mg_of X G e3
    | n + 4, q => absurd q (by omega)
  have m_isinstance := PySem.W.mg_none_of X G z_isinstance
  have m_int := PySem.W.mg_none_of X G z_int
  have m_bool := PySem.W.mg_none_of X G z_bool
  have m_tuple := PySem.W.mg_none_of X G z_tuple
  have m_str := PySem.W.mg_none_of X G z_str
  have m_len := PySem.W.mg_none_of X G z_len
  have m_min := PySem.W.mg_none_of X G z_min
  have m_max := PySem.W.mg_none_of X G z_max
  have m_repr := PySem.W.mg_none_of X G z_repr
  have m_range := PySem.W.mg_none_of X G z_range
  have T : Tx K mg (fun i => [C0, C1, C2, C3].getD i 0) fI := tab_of tb gl
  obtain ⟨t30, hL⟩ := intK_of tL
  obtain ⟨t31, hS⟩ := intK_of tS
  have T0 : Txt0 mg := ⟨m_len, m_max⟩
  have Tt : Ta mg := ⟨m_isinstance, m_int, m_bool, m_tuple, m_str, m_len, t30, PySem.W.mg_of X G hL⟩
  have M : Tm mg := ⟨m_min, m_max⟩
  have R : Tr mg := ⟨m_repr⟩
  have B : Tb mg := ⟨m_range⟩
  have St : Steps K w mg aS := ⟨PySem.W.mg_of X G gS, dS⟩
  have S2 : Steps2 K aS := ⟨sr, su, sl, sd⟩
  have Wy : Ways K mg aW := ⟨PySem.W.mg_of X G gW, tW⟩
  have Op : Opps K w mg aO := ⟨PySem.W.mg_of X G gO, dO, pr, pu, pl, pd⟩
  have FI := fun_mk (st := sIni) lI cI kI
  have bI := FI.binds (ps := ["self", "value"]) fun _ _ _ _ _ _ us hl => match us, hl with | [_, _], _ => rfl
  have F0 := fun_mk (st := (top 11)) l0 c0 k0
  have b0 := F0.binds (ps := ["value"]) fun _ _ _ _ _ _ us hl => match us, hl with | [_], _ => rfl
  have A0 : At K mg "is_integer" f0 _ ["value"] := ⟨PySem.W.mg_of X G a0, k0, b0⟩
  have F1 := fun_mk (st := (top 12)) l1 c1 k1
  have b1 := F1.binds (ps := ["value"]) fun _ _ _ _ _ _ us hl => match us, hl with | [_], _ => rfl
  have A1 : At K mg "is_point" f1 _ ["value"] := ⟨PySem.W.mg_of X G a1, k1, b1⟩
  have F2 := fun_mk (st := (top 13)) l2 c2 k2
  have b2 := F2.binds (ps := ["value"]) fun _ _ _ _ _ _ us hl => match us, hl with | [_], _ => rfl
  have A2 : At K mg "is_direction" f2 _ ["value"] := ⟨PySem.W.mg_of X G a2, k2, b2⟩
  have F3 := fun_mk (st := (top 14)) l3 c3 k3
  have b3 := F3.binds (ps := ["value"]) fun _ _ _ _ _ _ us hl => match us, hl with | [_], _ => rfl
  have A3 : At K mg "is_edge" f3 _ ["value"] := ⟨PySem.W.mg_of X G a3, k3, b3⟩
  have F4 := fun_mk (st := (top 15)) l4 c4 k4
  have b4 := F4.binds (ps := ["value"]) fun _ _ _ _ _ _ us hl => match us, hl with | [_], _ => rfl
  have A4 : At K mg "edge_number" f4 _ ["value"] := ⟨PySem.W.mg_of X G a4, k4, b4⟩
  have F5 := fun_mk (st := (top 16)) l5 c5 k5
  have b5 := F5.binds (ps := ["point", "direction"]) fun _ _ _ _ _ _ us hl => match us, hl with | [_, _], _ => rfl
  have A5 : At K mg "beside" f5 _ ["point", "direction"] := ⟨PySem.W.mg_of X G a5, k5, b5⟩
  have F6 := fun_mk (st := (top 17)) l6 c6 k6
  have b6 := F6.binds (ps := ["point", "other"]) fun _ _ _ _ _ _ us hl => match us, hl with | [_, _], _ => rfl
  have A6 : At K mg "direction_between" f6 _ ["point", "other"] := ⟨PySem.W.mg_of X G a6, k6, b6⟩
  have F7 := fun_mk (st := (top 18)) l7 c7 k7
  have b7 := F7.binds (ps := ["point", "other"]) fun _ _ _ _ _ _ us hl => match us, hl with | [_, _], _ => rfl
  have A7 : At K mg "way_between" f7 _ ["point", "other"] := ⟨PySem.W.mg_of X G a7, k7, b7⟩
  have F8 := fun_mk (st := (top 19)) l8 c8 k8
  have b8 := F8.binds (ps := ["point", "other"]) fun _ _ _ _ _ _ us hl => match us, hl with | [_, _], _ => rfl
  have A8 : At K mg "edge_between" f8 _ ["point", "other"] := ⟨PySem.W.mg_of X G a8, k8, b8⟩
  have F9 := fun_mk (st := (top 20)) l9 c9 k9
  have b9 := F9.binds (ps := ["direction"]) fun _ _ _ _ _ _ us hl => match us, hl with | [_], _ => rfl
  have A9 : At K mg "opposite" f9 _ ["direction"] := ⟨PySem.W.mg_of X G a9, k9, b9⟩
  have F10 := fun_mk (st := (top 21)) l10 c10 k10
  have b10 := F10.binds (ps := ["x", "y"]) fun _ _ _ _ _ _ us hl => match us, hl with | [_, _], _ => rfl
  have A10 : At K mg "_has_truth" f10 _ ["x", "y"] := ⟨PySem.W.mg_of X G a10, k10, b10⟩
  have F11 := fun_mk (st := (top 22)) l11 c11 k11
  have b11 := F11.binds (ps := ["value"]) fun _ _ _ _ _ _ us hl => match us, hl with | [_], _ => rfl
  have A11 : At K mg "_check_point" f11 _ ["value"] := ⟨PySem.W.mg_of X G a11, k11, b11⟩
  have F12 := fun_mk (st := (top 23)) l12 c12 k12
  have b12 := F12.binds (ps := ["value"]) fun _ _ _ _ _ _ us hl => match us, hl with | [_], _ => rfl
  have A12 : At K mg "_check_direction" f12 _ ["value"] := ⟨PySem.W.mg_of X G a12, k12, b12⟩
  have F13 := fun_mk (st := sCell) l13 c13 k13
  have b13 := F13.binds (ps := ["_law_script", "_law_k"]) fun _ _ _ _ _ _ us hl => match us, hl with | [_, _], _ => rfl
  have A13 : At K mg "_law_cell_at" f13 _ ["_law_script", "_law_k"] := ⟨PySem.W.mg_of X G a13, k13, b13⟩
  have F14 := fun_mk (st := sBox) l14 c14 k14
  have b14 := F14.binds (ps := ["_law_number"]) fun _ _ _ _ _ _ us hl => match us, hl with | [_], _ => rfl
  have A14 : At K mg "_law_box" f14 _ ["_law_number"] := ⟨PySem.W.mg_of X G a14, k14, b14⟩
  have F15 := fun_mk (st := sTake) l15 c15 k15
  have b15 := F15.binds (ps := ["_law_box_here", "_law_many"]) fun _ _ _ _ _ _ us hl => match us, hl with | [_, _], _ => rfl
  have A15 : At K mg "_law_take" f15 _ ["_law_box_here", "_law_many"] := ⟨PySem.W.mg_of X G a15, k15, b15⟩
  have F16 := fun_mk (st := (top 28)) l16 c16 k16
  have b16 := F16.binds (ps := ["_law_value"]) fun _ _ _ _ _ _ us hl => match us, hl with | [_], _ => rfl
  have A16 : At K mg "_law_integer" f16 _ ["_law_value"] := ⟨PySem.W.mg_of X G a16, k16, b16⟩
  have F17 := fun_mk (st := (top 29)) l17 c17 k17
  have b17 := F17.binds (ps := ["_law_value"]) fun _ _ _ _ _ _ us hl => match us, hl with | [_], _ => rfl
  have A17 : At K mg "_law_point" f17 _ ["_law_value"] := ⟨PySem.W.mg_of X G a17, k17, b17⟩
  have F18 := fun_mk (st := (top 30)) l18 c18 k18
  have b18 := F18.binds (ps := ["_law_one", "_law_other"]) fun _ _ _ _ _ _ us hl => match us, hl with | [_, _], _ => rfl
  have A18 : At K mg "_law_near" f18 _ ["_law_one", "_law_other"] := ⟨PySem.W.mg_of X G a18, k18, b18⟩
  have F19 := fun_mk (st := (top 31)) l19 c19 k19
  have b19 := F19.binds (ps := ["_law_value"]) fun _ _ _ _ _ _ us hl => match us, hl with | [_], _ => rfl
  have A19 : At K mg "_law_edge" f19 _ ["_law_value"] := ⟨PySem.W.mg_of X G a19, k19, b19⟩
  have F20 := fun_mk (st := (top 32)) l20 c20 k20
  have b20 := F20.binds (ps := ["_law_box_here"]) fun _ _ _ _ _ _ us hl => match us, hl with | [_], _ => rfl
  have A20 : At K mg "_law_values" f20 _ ["_law_box_here"] := ⟨PySem.W.mg_of X G a20, k20, b20⟩
  have F21 := fun_mk (st := (top 33)) l21 c21 k21
  have b21 := F21.binds (ps := ["_law_kind", "_law_one", "_law_other"]) fun _ _ _ _ _ _ us hl => match us, hl with | [_, _, _], _ => rfl
  have A21 : At K mg "_law_caught" f21 _ ["_law_kind", "_law_one", "_law_other"] := ⟨PySem.W.mg_of X G a21, k21, b21⟩
  have F22 := fun_mk (st := (top 34)) l22 c22 k22
  have b22 := F22.binds (ps := ["_law_value"]) fun _ _ _ _ _ _ us hl => match us, hl with | [_], _ => rfl
  have A22 : At K mg "_law_is_letter" f22 _ ["_law_value"] := ⟨PySem.W.mg_of X G a22, k22, b22⟩
  have F23 := fun_mk (st := (top 35)) l23 c23 k23
  have b23 := F23.binds (ps := ["_law_kind", "_law_one", "_law_other"]) fun _ _ _ _ _ _ us hl => match us, hl with | [_, _, _], _ => rfl
  have A23 : At K mg "_law_due" f23 _ ["_law_kind", "_law_one", "_law_other"] := ⟨PySem.W.mg_of X G a23, k23, b23⟩
  have F24 := fun_mk (st := sLaw) l24 c24 k24
  refine ⟨PySem.W.fnOf "law" "law" (defArgs sLaw) (defBody sLaw) (defScope sLaw) .none kV24 dc24 pm24 an24 cd24 ct24, fun s v => .of_eq rfl, fun base _ _ => ?_⟩
  have Gini := ok_ini (P := P) (w := w) (mg := mg) (base := base) FI
  have Gint := ok_isint (P := P) (w := w) (base := base) F0 Tt
  have Gpt := ok_ispoint F1 Tt Gint A0
  have Gdir := ok_isdir (P := P) (base := base) F2 Tt St
  have Gtr := ok_truth (P := P) (w := w) (mg := mg) (base := base) F10
  have Gen := ok_enum F4 Tt ⟨t31, PySem.W.mg_of X G hS⟩ Gtr A10
  have Gie := ok_isedge F3 Gen A4
  have Gcp := ok_chkP F11 T Gini bI Gpt A1
  have Gcd := ok_chkD F12 T Gini bI Gdir A2
  have Gbe := ok_beside F5 St S2 Gcp A11 Gcd A12 Gpt A1
  have Gwb := ok_way (P := P) (w := w) (base := base) F7 Wy
  have Gdb := ok_between F6 T Gini bI Gcp A11 Gwb A7
  have Geb := ok_ebetween F8 Gdb A6
  have Gop := ok_opp F9 Op Gcd A12
  have Gtk := ok_take (P := P) (w := w) (mg := mg) (base := base) F15
  have Gli := ok_lint (P := P) (w := w) (base := base) F16 Tt
  have Glp := ok_lpoint F17 Tt M Gli A16
  have Gne := ok_near (P := P) (w := w) (mg := mg) (base := base) F18
  have Gle := ok_ledge F19 Tt Glp A17 Gne A18
  have Gll := ok_letter (P := P) (w := w) (base := base) F22 Tt
  have Gva := ok_vals F20 Tt Gtk A15
  have Gca := ok_caught F21 T R Gbe A5 Gdb A6 Geb A8 Gop A9
  have Gdu := ok_due F23 Tt M R Gll A22 Glp A17 Gne A18
  exact ok_law F24 T0 R B M (ok_cell F13 T0) A13 (ok_box F14 T0) A14 Gtk A15 Gva A20 Gint A0 Gpt A1 Gdir A2 Gie A3 Gli A16 Glp A17 Gll A22 Gle A19 Gca A21 Gdu A23
end K1
open PySem PySem.W PyProof.Rows
set_option Elab.async false
set_option maxRecDepth 100000 in
set_option maxHeartbeats 0 in
theorem PySem.Challenge.cw_nevercrossed_k01_points_directions_and_e_holds : PySem.Challenge.rw_nevercrossed_k01_points_directions_and_e.Holds := by
  w_on; o_law; k_head; (case hw => w_witness2)
  k_fill
  refine Nv.walkG (l := PySem.Challenge.rw_nevercrossed_k01_points_directions_and_e) (n := 63) (k := 9) (x := "_law_script") (sp := K1.spLaw) rfl (by decide) rfl ⟨rfl, by decide, by decide⟩ (fun w h Y => PySem.W.kIn_of Y) ?F (fun K H a ns hl hS => ⟨a, ns, rfl, hS, hl, fun _ => rfl⟩)
  case F =>
    intro w mg fa h KX G hmg
    refine' K1.all_mk KX G hmg ?h_e0 ?h_e1 ?h_e2 ?h_e3 ?h_aI ?h_lI ?h_cI ?h_kI ?h_a0 ?h_l0 ?h_c0 ?h_k0 ?h_a1 ?h_l1 ?h_c1 ?h_k1 ?h_a2 ?h_l2 ?h_c2 ?h_k2 ?h_a3 ?h_l3 ?h_c3 ?h_k3 ?h_a4 ?h_l4 ?h_c4 ?h_k4 ?h_a5 ?h_l5 ?h_c5 ?h_k5 ?h_a6 ?h_l6 ?h_c6 ?h_k6 ?h_a7 ?h_l7 ?h_c7 ?h_k7 ?h_a8 ?h_l8 ?h_c8 ?h_k8 ?h_a9 ?h_l9 ?h_c9 ?h_k9 ?h_a10 ?h_l10 ?h_c10 ?h_k10 ?h_a11 ?h_l11 ?h_c11 ?h_k11 ?h_a12 ?h_l12 ?h_c12 ?h_k12 ?h_a13 ?h_l13 ?h_c13 ?h_k13 ?h_a14 ?h_l14 ?h_c14 ?h_k14 ?h_a15 ?h_l15 ?h_c15 ?h_k15 ?h_a16 ?h_l16 ?h_c16 ?h_k16 ?h_a17 ?h_l17 ?h_c17 ?h_k17 ?h_a18 ?h_l18 ?h_c18 ?h_k18 ?h_a19 ?h_l19 ?h_c19 ?h_k19 ?h_a20 ?h_l20 ?h_c20 ?h_k20 ?h_a21 ?h_l21 ?h_c21 ?h_k21 ?h_a22 ?h_l22 ?h_c22 ?h_k22 ?h_a23 ?h_l23 ?h_c23 ?h_k23 ?h_a24 ?h_l24 ?h_c24 ?h_k24 ?h_z_isinstance ?h_z_int ?h_z_bool ?h_z_tuple ?h_z_str ?h_z_len ?h_z_min ?h_z_max ?h_z_repr ?h_z_range ?h_tL ?h_tS ?h_gS ?h_dS ?h_sr ?h_su ?h_sl ?h_sd ?h_gW ?h_tW ?h_gO ?h_dO ?h_pr ?h_pu ?h_pl ?h_pd ?h_tb
    (case h_e0 => k_is)
    (case h_e1 => k_is)
    (case h_e2 => k_is)
    (case h_e3 => k_is)
    (case h_aI => k_is)
    (case h_lI => k_is)
    (case h_cI => k_is)
    (case h_kI => k_is)
    (case h_a0 => k_is)
    (case h_l0 => k_is)
    (case h_c0 => k_is)
    (case h_k0 => k_is)
    (case h_a1 => k_is)
    (case h_l1 => k_is)
    (case h_c1 => k_is)
    (case h_k1 => k_is)
    (case h_a2 => k_is)
    (case h_l2 => k_is)
    (case h_c2 => k_is)
    (case h_k2 => k_is)
    (case h_a3 => k_is)
    (case h_l3 => k_is)
    (case h_c3 => k_is)
    (case h_k3 => k_is)
    (case h_a4 => k_is)
    (case h_l4 => k_is)
    (case h_c4 => k_is)
    (case h_k4 => k_is)
    (case h_a5 => k_is)
    (case h_l5 => k_is)
    (case h_c5 => k_is)
    (case h_k5 => k_is)
    (case h_a6 => k_is)
    (case h_l6 => k_is)
    (case h_c6 => k_is)
    (case h_k6 => k_is)
    (case h_a7 => k_is)
    (case h_l7 => k_is)
    (case h_c7 => k_is)
    (case h_k7 => k_is)
    (case h_a8 => k_is)
    (case h_l8 => k_is)
    (case h_c8 => k_is)
    (case h_k8 => k_is)
    (case h_a9 => k_is)
    (case h_l9 => k_is)
    (case h_c9 => k_is)
    (case h_k9 => k_is)
    (case h_a10 => k_is)
    (case h_l10 => k_is)
    (case h_c10 => k_is)
    (case h_k10 => k_is)
    (case h_a11 => k_is)
    (case h_l11 => k_is)
    (case h_c11 => k_is)
    (case h_k11 => k_is)
    (case h_a12 => k_is)
    (case h_l12 => k_is)
    (case h_c12 => k_is)
    (case h_k12 => k_is)
    (case h_a13 => k_is)
    (case h_l13 => k_is)
    (case h_c13 => k_is)
    (case h_k13 => k_is)
    (case h_a14 => k_is)
    (case h_l14 => k_is)
    (case h_c14 => k_is)
    (case h_k14 => k_is)
    (case h_a15 => k_is)
    (case h_l15 => k_is)
    (case h_c15 => k_is)
    (case h_k15 => k_is)
    (case h_a16 => k_is)
    (case h_l16 => k_is)
    (case h_c16 => k_is)
    (case h_k16 => k_is)
    (case h_a17 => k_is)
    (case h_l17 => k_is)
    (case h_c17 => k_is)
    (case h_k17 => k_is)
    (case h_a18 => k_is)
    (case h_l18 => k_is)
    (case h_c18 => k_is)
    (case h_k18 => k_is)
    (case h_a19 => k_is)
    (case h_l19 => k_is)
    (case h_c19 => k_is)
    (case h_k19 => k_is)
    (case h_a20 => k_is)
    (case h_l20 => k_is)
    (case h_c20 => k_is)
    (case h_k20 => k_is)
    (case h_a21 => k_is)
    (case h_l21 => k_is)
    (case h_c21 => k_is)
    (case h_k21 => k_is)
    (case h_a22 => k_is)
    (case h_l22 => k_is)
    (case h_c22 => k_is)
    (case h_k22 => k_is)
    (case h_a23 => k_is)
    (case h_l23 => k_is)
    (case h_c23 => k_is)
    (case h_k23 => k_is)
    (case h_a24 => k_is)
    (case h_l24 => k_is)
    (case h_c24 => k_is)
    (case h_k24 => k_is)
    (case h_z_isinstance => k_is)
    (case h_z_int => k_is)
    (case h_z_bool => k_is)
    (case h_z_tuple => k_is)
    (case h_z_str => k_is)
    (case h_z_len => k_is)
    (case h_z_min => k_is)
    (case h_z_max => k_is)
    (case h_z_repr => k_is)
    (case h_z_range => k_is)
    (case h_tL => kernel_rfl)
    (case h_tS => kernel_rfl)
    (case h_gS => rfl)
    (case h_dS => first | kernel_rfl | rfl)
    (case h_sr => first | kernel_rfl | rfl)
    (case h_su => first | kernel_rfl | rfl)
    (case h_sl => first | kernel_rfl | rfl)
    (case h_sd => first | kernel_rfl | rfl)
    (case h_gW => rfl)
    (case h_tW => first | kernel_rfl | rfl)
    (case h_gO => rfl)
    (case h_dO => first | kernel_rfl | rfl)
    (case h_pr => first | kernel_rfl | rfl)
    (case h_pu => first | kernel_rfl | rfl)
    (case h_pl => first | kernel_rfl | rfl)
    (case h_pd => first | kernel_rfl | rfl)
    (case h_tb => kernel_rfl)
#print axioms PySem.Challenge.cw_nevercrossed_k01_points_directions_and_e_holds
