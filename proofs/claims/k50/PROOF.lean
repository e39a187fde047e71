import PyProof.Rows.All
import Wide.All
import OpenK.AllK
import Wide.FinOn
import HandS.ForMost
import HandS.ForExc
import HandS.IsInst
import HandS.CallLocal
import HandS.Wide
import HandS.WideBits
import HandS.Flow
import HandS.EndBits
import HandS.WrittenGet
import PyProof.ReprRoads
import HandS.More
import HandS.Walk
import PyProof.Rows.RegFStrParts
import HandS.SetFor
import HandS.TupSets
import HandS.Strs
import PyProof.SumAny
import HandS.Conv
import HandS.WordsDict
import HandS.DictComp
import HandS.Iter
import HandS.DictTup
import HandS.ListItems
import HandS.MapObj
import KE.KDictZip
import HandS.TupAny
import HandS.Small
import HandS.Style
import KE.RegKSuper
import PySem.Challenge.RW_cellbills_k50_whole_moves_at_once
set_option Elab.async false
set_option linter.all false
set_option maxRecDepth 100000
set_option maxHeartbeats 4000000
/-! What the layer lacks: defs that may ask for a text of a list (they want to know that no such asking is under way), // by any number that is not 0, great powers, calls by keywords alone, repr of data. -/
namespace Cb
open PySem PySem.Spec PyProof.Rows L2

/-! ### numbers -/
def DivAny (_ j : Int) : Prop := j ≠ 0 ∧ j.natAbs.log2 < 9000
def PowAny (i j : Int) : Prop := 0 ≤ j ∧ (Builtin.Int.intBits i : Int) * j ≤ 2 ^ 27
section
variable {X : Cx}
theorem op_fdivA : OpR X (binaryOp .FloorDiv) (rI DivAny fun i j => .int (i.fdiv j)) :=
  opI fun _ _ _ _ _ _ _ hd q => floordiv_int hd.1 q (.inl (PyProof.noPylong_of_log2 hd.2))
theorem op_powA : OpR X (binaryOp .Pow) (rI PowAny fun i j => .int (i ^ j.toNat)) :=
  opI fun _ _ _ _ _ _ _ hd q => pow_int hd.1 hd.2 q
end

/-! ### a text of data -/
@[irreducible] def rRepr (K : PySem.W.Frag) (u : Nat) : List V → Hp → VK → Prop := fun vs H Q =>
  ∃ (v : V) (d : PyData), vs = [v] ∧ Dp K H v d ∧ d.showable = true ∧ d.hasDict = false ∧ u + (d.depth + 1) < cLine ∧ ((∃ i, d = .int i) ∨ d.shown.length ≤ sizeLine) ∧ Q (.str d.shown) H
section
variable {X : Cx}
theorem call_repr (hg : X.A.guards = some []) : CallR X (.builtin "repr") (rRepr X.K X.A.units) := by
  intro pins s σ H vs us Q I rel h
  unfold rRepr at h
  obtain ⟨v, d, rfl, hd, hs, hn, hu, hz, q⟩ := h
  obtain ⟨u, rfl, ru⟩ := vals1 rel
  obtain ⟨as, rd⟩ := Dp.reads I d v u hd ru
  cases hd with
  | non =>
    cases ru
    exact PySem.P.repr_of_none ⟨.str "None", H, I.tok _, ⟨_, rfl⟩, q⟩
  | bl b =>
    cases ru
    exact PySem.P.repr_of_bool ⟨.str (PyData.shown (.bool b)), H, I.tok _, ⟨_, rfl⟩, q⟩
  | int i =>
    obtain ⟨t, rfl⟩ := ru
    have hi : i.natAbs.log2 < 1920 := of_decide_eq_true hs
    exact PySem.P.repr_of_int hi ⟨.str (PyData.shown (.int i)), H, I.tok _, ⟨_, rfl⟩, q⟩
  | str x =>
    obtain ⟨t, rfl⟩ := ru
    exact PySem.P.repr_of_str ⟨.str (PyData.shown (.str x)), H, I.tok _, ⟨_, rfl⟩, q⟩ (hz.resolve_left fun ⟨_, z⟩ => nomatch z)
  | lst e1 e2 =>
    cases ru
    exact repr_of_reads' rd hs (PyData.noDict_hsm hn) hg hu (fun _ _ z => z) (fun h' w tk hk => ⟨.str (PyData.shown _), H, I.kept hk, ⟨_, rfl⟩, q⟩) (hz.resolve_left fun ⟨_, z⟩ => nomatch z)
  | tup e1 e2 =>
    cases ru
    exact repr_of_reads' rd hs (PyData.noDict_hsm hn) hg hu (fun _ _ z => z) (fun h' w tk hk => ⟨.str (PyData.shown _), H, I.kept hk, ⟨_, rfl⟩, q⟩) (hz.resolve_left fun ⟨_, z⟩ => nomatch z)
end

/-! ### defs that want to know what is under way -/
structure FnG (P : Program) (w : World) (K : PySem.W.Frag) (mg : Str → Option Value) (base : Heap) (c : CXT) (k : Nat) (f : Addr) (fd : FuncData) (ps : List Str) (sp : Sp) : Prop where
  long : ∀ vs H Q E, sp vs H Q E → vs.length = ps.length
  goes : ∀ A : Around, A.guards = some [] → Room k A → ∀ (around : List Env) (s : Shared) (H : Hp) (given : Args) (us : List Value) (vs : List V) (Q : VK) (E : XK),
    Env0 P w K mg base A around s H → BindsTo s fd given (ps.zip us) → Vals vs us → sp vs H Q E →
    codeAny (model P w) A (.call (.ref f) given) (CR c around P w H s Q E) s
theorem FnG.up {P : Program} {w : World} {K : PySem.W.Frag} {mg : Str → Option Value} {base : Heap} {c : CXT} {j k : Nat} {f : Addr} {fd : FuncData} {ps : List Str} {sp : Sp}
    (G : FnG P w K mg base c j f fd ps sp) (le : j ≤ k) : FnG P w K mg base c k f fd ps sp :=
  { long := G.long, goes := fun A ga room => G.goes A ga (room.mono le) }
section
variable {X : Cx} {c : CXT} {k : Nat} {f : Addr} {fd : FuncData} {ps : List Str} {sp : Sp} {dvs : List V} {ds : List Value} {E : XK} {x : Str} {p pos : Pos} {e : Expr} {es : List Expr} {t : TA}
theorem runs_g {pins : List (Addr × Obj)} {σ : L2.St} {H : Hp} {s : Shared} {Q : VK} {us : List Value} {vs : List V} (G : FnG X.prog X.w X.K X.mg X.base c k f fd ps sp) (ga : X.A.guards = some []) (room : Room k X.A)
    (bd : Binds X.K fd ps ds) (hd : Vals dvs ds) (out : Passes c X E) (I : Inv X pins σ H s) (rel : Vals vs us) (pr : sp (vs ++ dvs) H Q E) :
    wpAny (model X.prog X.w) X.A (call (.ref f) us) (EP X pins σ Q) X.xe s := by
  have all := rel.append hd
  have many : (us ++ ds).length = ps.length := all.length ▸ G.long _ _ _ _ pr
  refine wpAny_call (codeAny_mono (G.goes X.A ga room X.stack s H ⟨us, []⟩ _ _ Q E I.env0 (bd s us I.kIn many) all pr) ?_)
  intro res s2 got
  match res, got with
  | .error err, got => exact out pins σ H s err s2 I got
  | .ok (.ret u), got => exact I.after got
theorem pe_callG (G : FnG X.prog X.w X.K X.mg X.base c k f fd ps sp) (ga : X.A.guards = some []) (room : Room k X.A) (gl : Gl X x) (mm : X.mg x = some (.ref f)) (kk : PySem.W.keepIn X.K (.ref f) = true)
    (bd : Binds X.K fd ps ds) (hd : Vals dvs ds) (out : Passes c X E) (ha : PA X (e :: es) t) (nd : (x == ("__debug__" : Str)) = false := by decide)
    (se : starEach (e :: es) X.env = (false, eval e X.env) :: starEach es X.env := by rfl) (pl : (backTo pos (starEach es X.env)).any (·.1) = false := by rfl) :
    PE X (.Call (.Name x p) (e :: es) [] pos) (tCall sp dvs E t) := by
  constructor
  intro pins s σ H Q I pr
  refine wpAny_Call_Name_kw (ld_glob I gl mm (PySem.W.callWith_K (h₀ := X.base) I.ok.mod.kin kk ?_ se pl) nd)
  refine thn (ha.run pos pins s σ H _ I pr) ?_
  rintro us s1 ⟨vs, H1, J, rel, pr1⟩
  exact ⟨J.kIn, runs_g G ga room bd hd out J rel pr1⟩
end
/-! f(k = v, ..) -/
section
variable {X : Cx} {c : CXT} {k : Nat} {f : Addr} {fd : FuncData} {ps ks : List Str} {sp : Sp} {E : XK} {x : Str} {p pos : Pos} {kws : List Keyword} {tk : TA} {g : List Value → List Value → List Value} {gV : List V → List V → List V}
theorem pe_callK0 (F : FnOk X.prog X.w X.K X.mg X.base c k f fd ps sp) (room : Room k X.A) (gl : Gl X x) (mm : X.mg x = some (.ref f)) (kk : PySem.W.keepIn X.K (.ref f) = true) (kb : KBinds X.K fd ps ks g gV) (out : Passes c X E) (hk : PK X kws tk)
    (named : (backToKw pos (keywordEach kws X.env)).all (·.1.isSome) = true := by rfl) (names : (backToKw pos (keywordEach kws X.env)).filterMap (·.1) = ks := by rfl) (nd : (x == ("__debug__" : Str)) = false := by decide)
    (pl : ((backTo pos (starEach [] X.env)).any (·.1) || (backToKw pos (keywordEach kws X.env)).any (·.1.isNone)) = false := by rfl) :
    PE X (.Call (.Name x p) [] kws pos) (tCallK sp gV E tNil tk) := by
  constructor
  intro pins s σ H Q I pr
  refine wpAny_Call_Name_kw (ld_glob I gl mm (PySem.W.callWith_KW0 (h₀ := X.base) I.ok.mod.kin kk named ?_ pl) nd)
  refine thn (hk.run pos pins s σ H _ I pr) ?_
  rintro ws s1 ⟨zs, H1, J, rel, pr1⟩
  refine ⟨J.kIn, ?_⟩
  rw [names]
  exact run_fnk (us := []) (vs := []) F room kb out J .nil rel pr1
end
/-- a def of the text that wants to know it -/
theorem fun_g {P : Program} {w : World} {K : PySem.W.Frag} {mg : Str → Option Value} {base : Heap} {c : CXT} {x qual : Str} {st : Stmt} {f : Addr} {fd : FuncData} {N ps : List Str} {k : Nat} {sp : Sp}
    (F : Fun K x qual st f fd) (S : FnScope N ps (defScope st)) (long : ∀ vs H Q E, sp vs H Q E → vs.length = ps.length)
    (body : ∀ (cdv : Value) (A : Around) (around : List Env) (s : Shared) (H : Hp) (vs : List V) (Q : VK) (E : XK), A.guards = some [] → Room k (A.deeper (envOfC qual (defScope st) s.heap.objs.size f cdv)) → sp vs H Q E →
      ∃ t, PSs (cxOf c P w K mg base N qual (defScope st) f cdv A around s H E) (defBody st) t ∧ t { nx := fun _ H' => Q .non H', rt := Q } (start N vs) H) :
    FnG P w K mg base c (k + 1) f fd ps sp := by
  obtain ⟨oc, od, kV, doc, pm, an, cdv, ct, osl, rfl, lk, hcd⟩ := F.ex
  refine ⟨long, ?_⟩
  intro A ga room around s H given us vs Q E z0 bd rel pr
  have KX : K.In s.heap := z0.mod.kin.keeps fun b o q => (z0.bs b o q).1
  have lim : s.heap.NoLimit := z0.mod.nolimit.keeps fun b o q => (z0.bs b o q).1
  have where_ : ∀ y ∈ ps.zip us, (defScope st).names.lookup y.1 = some .local ∨ ((defScope st).names.lookup y.1 = some .cell ∧ ((cellsFrom (s.heap.objs.size + 1) (defScope st).names []).lookup y.1).isSome = true) := by
    rintro ⟨n, v⟩ hy
    exact (S.par n (List.of_mem_zip hy).1).imp_right fun q => ⟨q, PySem.W.cellsFrom_some _ _ _ (.inl q)⟩
  refine codeAny_call_function room.depth (KX _ _ lk) rfl S.co S.gen rfl (PySem.W.codeRec_of KX hcd) (bd _ _ _ _ (wpAny_newFunctionEnv_cells S.kind where_ ?_))
  rintro env rfl s1 fresh
  refine ⟨lim.keeps fresh.toInCall.keep, codeAny_func ?_⟩
  obtain ⟨t, ht, hq⟩ := body cdv A around s H vs Q E ga (room.deeper _) pr
  have J : Inv (cxOf c P w K mg base N qual (defScope st) f cdv A around s H E) [] (start N vs) H s1 := inv_start S room.hd z0 (long _ _ _ _ pr) rel fresh
  refine wpAny_mono (ht.run [] s1 (start N vs) H _ J hq) ?_ (fun _ _ z => z)
  intro fl s2 got
  match fl, got with
  | .ret u, ⟨v, σ2, H2, L, rv, q⟩ => exact ⟨v, H2, L.os, L.bare, L.base, L.hok, rv, q⟩
  | .next, ⟨σ2, H2, L, q⟩ => exact ⟨V.non, H2, L.os, L.bare, L.base, L.hok, rfl, q⟩
  | .brk, ⟨_, _, _, q⟩ => exact q.elim
  | .cont, ⟨_, _, _, q⟩ => exact q.elim
end Cb
set_option Elab.async false
set_option linter.all false
set_option maxRecDepth 100000
set_option maxHeartbeats 4000000
namespace Cb
open PySem PySem.Spec PyProof.Rows L2
section
variable {P : Program} {w : World} {K : PySem.W.Frag} {mg mb : Str → Option Value} {k : Nat} {fa a : Addr} {fd : FuncData} {x : Str} {sp : Sp} {s : Shared} {vs : List Value} {ns : List Int}
/-- the law's def, called with the script, from an abstract heap that knows at most the script -/
theorem enters (H : Hp) (ob : Obj) (eo : ob = { cls := .type "list", data := .seq vs.toArray }) (H1 : ∀ b u, H b = some u → b = a ∧ u = .frz ob (.lst (ns.map V.int)) ∧ K.lookup a = none) (hS : SqL K H a (ns.map V.int)) (hok : HOk P w H s.heap)
    (KX : K.In s.heap) (g1 : s.heap.Ns mainGlobals mg) (g2 : s.heap.Ns builtinsNs mb) (g3 : ∀ x : Str, x ≠ "__name__" → mb x = bootBuiltins x) (g4 : s.heap.NoLimit) (g5 : s.gens = #[])
    (at_ : s.heap.get? a = some ob) (room : Room k callerA)
    (G : ∀ base : Heap, K.In base → base.Ns mainGlobals mg → FnG P w K mg base CX0 k fa fd [x] sp) (bd : ∀ (s : Shared) (u : Value), BindsTo s fd ⟨[u], []⟩ [(x, u)])
    (pr : sp [.ref a] H (fun v _ => v = .bl true) fun _ _ _ => False) :
    codeAny (model P w) callerA (.call (.ref fa) ⟨[.ref a], []⟩) (fun r s' => r = .ok (.ret (.bool true)) ∧ OldK s.heap s'.heap ∧ s'.os = s.os ∧ AllBare s'.gens) s := by
  have off : ∀ {b : Addr} {o : Obj}, s.heap.get? b = some o → o ≠ ob → H b = none := by
    intro b o e ne
    cases z : H b with
    | none => rfl
    | some u =>
      obtain ⟨rfl, _, _⟩ := H1 b u z
      exact absurd (Option.some.inj (e.symm.trans at_)) ne
  have offD : ∀ {b : Addr} {o : Obj} {es : Array DictEntry} {ep : Nat}, s.heap.get? b = some o → o.data = .dict es ep → H b = none := fun {b o es ep} e d => off e (by
    rintro rfl
    rw [eo] at d
    cases d)
  have hid : ∀ {b : Addr} {m : Str → Option Value}, s.heap.Ns b m → (hidT s.heap H).Ns b m := by
    rintro b m ⟨o, es, ep, e, d, r⟩
    exact ⟨o, es, ep, hidT_get e (offD e d), d, r⟩
  have KB : K.In (hidT s.heap H) := by
    intro b o e
    refine hidT_get (KX b o e) ?_
    cases z : H b with
    | none => rfl
    | some u =>
      obtain ⟨rfl, _, no⟩ := H1 b u z
      rw [no] at e
      cases e
  obtain ⟨mc, l1, l2⟩ := g4
  have z0 : Env0 P w K mg (hidT s.heap H) callerA [] s H :=
    { frames := rfl, mod := ⟨KB, hid g1, ⟨mb, hid g2, g3⟩, ⟨mc, hid l1, l2⟩⟩, bs := fun b o e => of_hidT e, bsz := Nat.le_of_eq (hidT_size _ _), funs := trivial
      frf := fun b hb => absurd (show b ∈ ([] : List Addr) from hb) List.not_mem_nil, hok := hok, bare := .of_eq g5 }
  refine codeAny_mono ((G _ KB (hid g1)).goes callerA rfl room [] s H ⟨[.ref a], []⟩ [.ref a] [.ref a] _ _ z0 (bd s (.ref a)) (.cons rfl .nil) pr) ?_
  intro res s2 got
  match res, got with
  | .ok (.ret u), got =>
    obtain ⟨v, H', os, bare, un, hok', rv, ev⟩ := got
    obtain rfl : v = V.bl true := ev
    obtain rfl : u = Value.bool true := rv
    refine ⟨rfl, OldK.of_keep ?_, os, bare⟩
    intro b o e
    cases z : H b with
    | none => exact un.keep b o e z (fun q => absurd (show b ∈ ([] : List Addr) from q) List.not_mem_nil) (by simp)
    | some u =>
      obtain ⟨rfl, rfl, _⟩ := H1 b u z
      have z2 := un.frzs b ob _ z
      obtain ⟨q1, _⟩ := hok b _ z
      obtain ⟨q2, _⟩ := hok' b _ z2
      exact (Option.some.inj (e.symm.trans q1)) ▸ q2
theorem enter (hobj : s.heap.get? a = some { cls := .type "list", data := .seq vs.toArray }) (hi : IntsAre vs ns) (hl : ns.length ≤ sizeLine)
    (KX : K.In s.heap) (g1 : s.heap.Ns mainGlobals mg) (g2 : s.heap.Ns builtinsNs mb) (g3 : ∀ x : Str, x ≠ "__name__" → mb x = bootBuiltins x) (g4 : s.heap.NoLimit) (g5 : s.gens = #[]) (room : Room k callerA)
    (G : ∀ base : Heap, K.In base → base.Ns mainGlobals mg → FnG P w K mg base CX0 k fa fd [x] sp) (bd : ∀ (s : Shared) (u : Value), BindsTo s fd ⟨[u], []⟩ [(x, u)])
    (pr : ∀ H : Hp, SqL K H a (ns.map V.int) → sp [.ref a] H (fun v _ => v = .bl true) fun _ _ _ => False) :
    codeAny (model P w) callerA (.call (.ref fa) ⟨[.ref a], []⟩) (fun r s' => r = .ok (.ret (.bool true)) ∧ OldK s.heap s'.heap ∧ s'.os = s.os ∧ AllBare s'.gens) s := by
  have rel := vals_ints hi
  cases hk : K.lookup a with
  | some o =>
    have same := Option.some.inj ((KX a o hk).symm.trans hobj)
    have hS : SqL K (fun _ => none) a (ns.map V.int) := .inr ⟨o, vs.toArray, _, hk, by rw [same], by rw [same], by rw [same], by rw [List.size_toArray, hi.length]; exact hl, rel⟩
    exact enters (fun _ => none) _ rfl (fun b u z => nomatch (show (none : Option HO) = some u from z)) hS (fun b u z => nomatch (show (none : Option HO) = some u from z)) KX g1 g2 g3 g4 g5 hobj room G bd (pr _ hS)
  | none =>
    let ob : Obj := { cls := .type "list", data := .seq vs.toArray }
    let H : Hp := fun b => if b = a then some (.frz ob (.lst (ns.map V.int))) else none
    have H1 : ∀ b u, H b = some u → b = a ∧ u = .frz ob (.lst (ns.map V.int)) ∧ K.lookup a = none := by
      intro b u z
      by_cases q : b = a
      · exact ⟨q, (Option.some.inj ((if_pos q).symm.trans z)).symm, hk⟩
      · exact nomatch ((if_neg q).symm.trans z : (none : Option HO) = some u)
    have hS : SqL K H a (ns.map V.int) := .inl (.inr ⟨ob, if_pos rfl⟩)
    refine enters H ob rfl H1 hS ?_ KX g1 g2 g3 g4 g5 hobj room G bd (pr _ hS)
    intro b u z
    obtain ⟨rfl, rfl, _⟩ := H1 b u z
    exact ⟨hobj, by rw [List.length_map]; exact hl, vs, _, rel, hobj⟩
end
/-- the goal that k_head leaves, for a law's def that wants to know what is under way; the script's ints with their bits -/
theorem walk_g {l : PySem.W.OpenLaw} {n k : Nat} {q : Program} {loose : List Str} {XP : (Str → Option Value) → Heap → Prop} {YP : World → Heap → Prop} {d : DefRec} {K : Params → PySem.W.Frag} {sp : PySem.W.Frag → Sp} {x : Str}
    (hn : l.most = some n) (small : n ≤ sizeLine) (plain : d.params.defaults = []) (room : Room k callerA) (hK : ∀ (w : World) (h : Heap), YP w h → (K w.params).In h)
    (G : ∀ (w : World) (mg : Str → Option Value) (fa : Addr) (h : Heap), (K w.params).In h → h.Ns mainGlobals mg → mg d.name = some (.ref fa) →
      ∃ fd : FuncData, (∀ (s : Shared) (u : Value), BindsTo s fd ⟨[u], []⟩ [(x, u)]) ∧ ∀ base : Heap, (K w.params).In base → base.Ns mainGlobals mg → FnG l.prog w (K w.params) mg base CX0 k fa fd [x] (sp (K w.params)))
    (pr : ∀ (K : PySem.W.Frag) (H : Hp) (a : Addr) (ns : List Int), ns.length ≤ n → (∀ i ∈ ns, Builtin.Int.intBits i ≤ 1048576) → SqL K H a (ns.map V.int) → sp K [.ref a] H (fun v _ => v = .bl true) fun _ _ _ => False) :
    PySem.W.WalkO q loose XP YP l.row.toRowW d [] (fun f vs => PySem.call f vs) := by
  refine Att.attach_callB hn plain ?_
  intro w s0 s mg mb fa o pm cd doc a vs ns A Y _ _ _ hmg hobj hints hlen hbits hg
  have KX := hK w _ Y
  obtain ⟨fd, bd, GG⟩ := G w mg fa _ KX A.T.g hmg
  exact enter hobj hints (Nat.le_trans hlen small) KX A.T.g A.T.b A.T.builtins A.T.nolimit hg room GG bd fun H hS => pr _ H a ns hlen hbits hS
end Cb
set_option Elab.async false
set_option linter.all false
set_option maxRecDepth 100000
set_option maxHeartbeats 4000000
namespace Cb
open PySem PySem.Spec PyProof.Rows L2
/-- a def stands under its name -/
def Has (K : PySem.W.Frag) (mg : Str → Option Value) (x : Str) (st : Stmt) (ps : List Str) : Prop :=
  ∃ (f : Addr) (fd : FuncData), Fun K x x st f fd ∧ mg x = some (.ref f) ∧ Binds K fd ps []
/-- it keeps a promise -/
def Says (P : Program) (w : World) (K : PySem.W.Frag) (mg : Str → Option Value) (base : Heap) (k : Nat) (x : Str) (ps : List Str) (sp : Sp) : Prop :=
  ∃ (f : Addr) (fd : FuncData), FnOk P w K mg base CX0 k f fd ps sp ∧ mg x = some (.ref f) ∧ PySem.W.keepIn K (.ref f) = true ∧ Binds K fd ps []
def SaysG (P : Program) (w : World) (K : PySem.W.Frag) (mg : Str → Option Value) (base : Heap) (k : Nat) (x : Str) (ps : List Str) (sp : Sp) : Prop :=
  ∃ (f : Addr) (fd : FuncData), FnG P w K mg base CX0 k f fd ps sp ∧ mg x = some (.ref f) ∧ PySem.W.keepIn K (.ref f) = true ∧ Binds K fd ps []
/-- also by keywords alone, in an order of their own: g puts them in the parameters' order -/
def kOnly (g : {α : Type} → List α → List α) : {α : Type} → List α → List α → List α
  | _, [], ws => g ws
  | _, _ :: _, _ => []
def SaysK (P : Program) (w : World) (K : PySem.W.Frag) (mg : Str → Option Value) (base : Heap) (k : Nat) (x : Str) (ps ks : List Str) (g : {α : Type} → List α → List α) (sp : Sp) : Prop :=
  ∃ (f : Addr) (fd : FuncData), FnOk P w K mg base CX0 k f fd ps sp ∧ mg x = some (.ref f) ∧ PySem.W.keepIn K (.ref f) = true ∧ KBinds K fd ps ks (kOnly g) (kOnly g)
def HasK (K : PySem.W.Frag) (mg : Str → Option Value) (x : Str) (st : Stmt) (ps ks : List Str) (g : {α : Type} → List α → List α) : Prop :=
  ∃ (f : Addr) (fd : FuncData), Fun K x x st f fd ∧ mg x = some (.ref f) ∧ KBinds K fd ps ks (kOnly g) (kOnly g)
/-- a def's body keeps a promise -/
abbrev Body (P : Program) (w : World) (K : PySem.W.Frag) (mg : Str → Option Value) (base : Heap) (k : Nat) (x : Str) (st : Stmt) (N : List Str) (sp : Sp) : Prop :=
  ∀ (f : Addr) (cdv : Value) (A : Around) (outer : List Env) (s : Shared) (H : Hp) (vs : List V) (Q : VK) (E : XK), Room k (A.deeper (envOfC x (defScope st) s.heap.objs.size f cdv)) → sp vs H Q E →
      ∃ t, PSs (cxOf CX0 P w K mg base N x (defScope st) f cdv A outer s H E).nox (defBody st) t ∧ t { nx := fun _ H' => Q .non H', rt := Q } (start N vs) H
section
variable {P : Program} {w : World} {K : PySem.W.Frag} {mg : Str → Option Value} {base : Heap} {k : Nat} {x : Str} {st : Stmt} {N ps : List Str} {sp : Sp}
theorem has {f : Addr} {oc : Value} {od an : Option Addr} {osl : Array (Option Value)} {kV doc pm cdv ct : Value} {h : Heap} (X : K.In h) (G : h.Ns mainGlobals mg) (a : PySem.W.nsIn K mainGlobals x = some (some (.ref f)))
    (l : K.lookup f = some ⟨oc, od, .func (PySem.W.fnOf x x (defArgs st) (defBody st) (defScope st) .none kV doc pm an cdv ct), osl⟩) (c : PySem.W.codeIn K cdv x = true) (kp : PySem.W.keepIn K (.ref f) = true)
    (b : ∀ (kV doc pm : Value) (an : Option Addr) (cdv ct : Value) (us : List Value), us.length = ps.length → bindArgs (PySem.W.fnOf x x (defArgs st) (defBody st) (defScope st) .none kV doc pm an cdv ct) ⟨us, []⟩ = pure (ps.zip us)) :
    Has K mg x st ps := ⟨f, _, fun_mk l c kp, PySem.W.mg_of X G a, (fun_mk l c kp).binds b⟩
theorem says (h : Has K mg x st ps) (S : FnScope N ps (defScope st)) (len : ∀ vs H Q E, sp vs H Q E → vs.length = ps.length)
    (body : ∀ (f : Addr) (cdv : Value) (A : Around) (outer : List Env) (s : Shared) (H : Hp) (vs : List V) (Q : VK) (E : XK), Room k (A.deeper (envOfC x (defScope st) s.heap.objs.size f cdv)) → sp vs H Q E →
      ∃ t, PSs (cxOf CX0 P w K mg base N x (defScope st) f cdv A outer s H E).nox (defBody st) t ∧ t { nx := fun _ H' => Q .non H', rt := Q } (start N vs) H) : Says P w K mg base (k + 1) x ps sp := by
  obtain ⟨f, fd, F, hm, b⟩ := h
  exact ⟨f, fd, F.ok S len fun cdv A outer s H vs Q E => body f cdv A outer s H vs Q E, hm, F.kp, b⟩
theorem saysK {ks : List Str} {g : {α : Type} → List α → List α} (h : HasK K mg x st ps ks g) (S : FnScope N ps (defScope st)) (len : ∀ vs H Q E, sp vs H Q E → vs.length = ps.length) (body : Body P w K mg base k x st N sp) : SaysK P w K mg base (k + 1) x ps ks g sp := by
  obtain ⟨f, fd, F, hm, b⟩ := h
  exact ⟨f, fd, F.ok S len fun cdv A outer s H vs Q E => body f cdv A outer s H vs Q E, hm, F.kp, b⟩
/-- one, and two turned about -/
theorem kb1 {fd : FuncData} {p : Str} (h : ∀ v : Value, bindArgs fd ⟨[], [(p, v)]⟩ = pure [(p, v)]) : KBinds K fd [p] [p] (kOnly fun l => l) (kOnly fun l => l) where
  to := fun s us ws _ hl => match us, ws, hl with
    | [], [v], _ => .of_eq (h v)
  rel := fun {vs us zs ws} r1 r2 => by
    cases r1 with
    | nil => exact r2
    | cons _ _ => exact .nil
theorem vals_rev {vs : List V} {us : List Value} (r : Vals vs us) : Vals vs.reverse us.reverse := by
  induction r with
  | nil => exact .nil
  | cons h _ ih =>
    rw [List.reverse_cons, List.reverse_cons]
    exact ih.append (.cons h .nil)
theorem kb2 {fd : FuncData} {p q : Str} (h : ∀ u v : Value, bindArgs fd ⟨[], [(q, u), (p, v)]⟩ = pure [(p, v), (q, u)]) : KBinds K fd [p, q] [q, p] (kOnly List.reverse) (kOnly List.reverse) where
  to := fun s us ws _ hl => match us, ws, hl with
    | [], [u, v], _ => .of_eq (h u v)
    | [], [], hl => nomatch hl
    | [], [_], hl => nomatch hl
    | [], _ :: _ :: _ :: _, hl => by
      have z : (List.reverse (_ :: _ :: _ :: _) : List Value).length = 2 := hl
      rw [List.length_reverse] at z
      simp at z
  rel := fun {vs us zs ws} r1 r2 => by
    cases r1 with
    | nil => exact vals_rev r2
    | cons _ _ => exact .nil
theorem hasK {ks : List Str} {gk : {α : Type} → List α → List α} {f : Addr} {oc : Value} {od an : Option Addr} {osl : Array (Option Value)} {kV doc pm cdv ct : Value} {h : Heap} (X : K.In h) (G : h.Ns mainGlobals mg) (a : PySem.W.nsIn K mainGlobals x = some (some (.ref f)))
    (l : K.lookup f = some ⟨oc, od, .func (PySem.W.fnOf x x (defArgs st) (defBody st) (defScope st) .none kV doc pm an cdv ct), osl⟩) (c : PySem.W.codeIn K cdv x = true) (kp : PySem.W.keepIn K (.ref f) = true)
    (b : KBinds K (PySem.W.fnOf x x (defArgs st) (defBody st) (defScope st) .none kV doc pm an cdv ct) ps ks (kOnly gk) (kOnly gk)) :
    HasK K mg x st ps ks gk := ⟨f, _, fun_mk l c kp, PySem.W.mg_of X G a, b⟩
theorem saysG (h : Has K mg x st ps) (S : FnScope N ps (defScope st)) (len : ∀ vs H Q E, sp vs H Q E → vs.length = ps.length)
    (body : ∀ (f : Addr) (cdv : Value) (A : Around) (outer : List Env) (s : Shared) (H : Hp) (vs : List V) (Q : VK) (E : XK), A.guards = some [] → Room k (A.deeper (envOfC x (defScope st) s.heap.objs.size f cdv)) → sp vs H Q E →
      ∃ t, PSs (cxOf CX0 P w K mg base N x (defScope st) f cdv A outer s H E).nox (defBody st) t ∧ t { nx := fun _ H' => Q .non H', rt := Q } (start N vs) H) : SaysG P w K mg base (k + 1) x ps sp := by
  obtain ⟨f, fd, F, hm, b⟩ := h
  exact ⟨f, fd, fun_g F S len fun cdv A outer s H vs Q E ga hr h => (body f cdv A outer s H vs Q E ga hr h).imp fun _ z => ⟨z.1.nox, z.2⟩, hm, F.kp, b⟩
theorem fnG {f : Addr} {fd : FuncData} (F : Fun K x x st f fd) (S : FnScope N ps (defScope st)) (len : ∀ vs H Q E, sp vs H Q E → vs.length = ps.length)
    (body : ∀ (f : Addr) (cdv : Value) (A : Around) (outer : List Env) (s : Shared) (H : Hp) (vs : List V) (Q : VK) (E : XK), A.guards = some [] → Room k (A.deeper (envOfC x (defScope st) s.heap.objs.size f cdv)) → sp vs H Q E →
      ∃ t, PSs (cxOf CX0 P w K mg base N x (defScope st) f cdv A outer s H E).nox (defBody st) t ∧ t { nx := fun _ H' => Q .non H', rt := Q } (start N vs) H) : FnG P w K mg base CX0 (k + 1) f fd ps sp :=
  fun_g F S len fun cdv A outer s H vs Q E ga hr h => (body f cdv A outer s H vs Q E ga hr h).imp fun _ z => ⟨z.1.nox, z.2⟩
theorem Says.imp {sp' : Sp} (c : Says P w K mg base k x ps sp) (h : ∀ vs H Q E, sp' vs H Q E → sp vs H Q E) : Says P w K mg base k x ps sp' := by
  obtain ⟨f, fd, F, hm, kp, b⟩ := c
  exact ⟨f, fd, F.imp h, hm, kp, b⟩
end
section
variable {X : Cx} {k j : Nat} {x : Str} {ps ks : List Str} {sp : Sp} {p pos : Pos} {e : Expr} {es : List Expr} {t tk : TA} {kws : List Keyword} {g : {α : Type} → List α → List α}
theorem pe_s (c : Says X.prog X.w X.K X.mg X.base k x ps sp) (hr : Room j X.A) (ha : PA X (e :: es) t) (le : k ≤ j := by decide) (gl : Gl X x := by rfl) (nd : (x == ("__debug__" : Str)) = false := by decide)
    (se : starEach (e :: es) X.env = (false, eval e X.env) :: starEach es X.env := by rfl) (pl : (backTo pos (starEach es X.env)).any (·.1) = false := by rfl) : PE X (.Call (.Name x p) (e :: es) [] pos) (tCall sp [] E0 t) := by
  obtain ⟨f, fd, F, hm, kp, b⟩ := c
  exact pe_call F (hr.mono le) gl hm kp b .nil pass0 ha nd se pl
theorem pe_g (c : SaysG X.prog X.w X.K X.mg X.base k x ps sp) (ga : X.A.guards = some []) (hr : Room j X.A) (ha : PA X (e :: es) t) (le : k ≤ j := by decide) (gl : Gl X x := by rfl) (nd : (x == ("__debug__" : Str)) = false := by decide)
    (se : starEach (e :: es) X.env = (false, eval e X.env) :: starEach es X.env := by rfl) (pl : (backTo pos (starEach es X.env)).any (·.1) = false := by rfl) : PE X (.Call (.Name x p) (e :: es) [] pos) (tCall sp [] E0 t) := by
  obtain ⟨f, fd, F, hm, kp, b⟩ := c
  exact pe_callG F ga (hr.mono le) gl hm kp b .nil pass0 ha nd se pl
theorem pe_k0 (c : SaysK X.prog X.w X.K X.mg X.base k x ps ks g sp) (hr : Room j X.A) (hk : PK X kws tk) (le : k ≤ j := by decide) (gl : Gl X x := by rfl)
    (named : (backToKw pos (keywordEach kws X.env)).all (·.1.isSome) = true := by rfl) (names : (backToKw pos (keywordEach kws X.env)).filterMap (·.1) = ks := by rfl) (nd : (x == ("__debug__" : Str)) = false := by decide)
    (pl : ((backTo pos (starEach [] X.env)).any (·.1) || (backToKw pos (keywordEach kws X.env)).any (·.1.isNone)) = false := by rfl) : PE X (.Call (.Name x p) [] kws pos) (tCallK sp (kOnly g) E0 tNil tk) := by
  obtain ⟨f, fd, F, hm, kp, b⟩ := c
  exact pe_callK0 F (hr.mono le) gl hm kp b pass0 hk named names nd pl
end
/-! ### heaps -/
theorem upd_self {H : Hp} {a : Addr} {o : HO} (h : H a = some o) : upd H a o = H := by
  funext b
  by_cases q : b = a
  · rw [q, upd_same, h]
  · rw [upd_ne q]
theorem same_new {H : Hp} {p : Addr} {o : HO} (h : H p = none) : Same H (upd H p o) := fun b u e => by
  rw [upd_ne (ne_of_none e h)]
  exact e
end Cb
set_option Elab.async false
set_option linter.all false
set_option maxRecDepth 100000
set_option maxHeartbeats 4000000
/-! Data that the calls themselves have made: what stands at an address is a list, a tuple or an empty dict of such. -/
namespace Cb
open PySem PySem.Spec PyProof.Rows L2
mutual
inductive DT (H : Hp) : V → PyData → Prop
  | non : DT H .non .none
  | bl (b : Bool) : DT H (.bl b) (.bool b)
  | int (i : Int) : DT H (.int i) (.int i)
  | str (z : Str) : DT H (.str z) (.str z)
  | lst {a : Addr} {xs : List V} {ds : List PyData} : H a = some (.lst xs) → DTs H xs ds → DT H (.ref a) (.list ds)
  | tup {a : Addr} {xs : List V} {ds : List PyData} : H a = some (.tup xs) → DTs H xs ds → DT H (.ref a) (.tuple ds)
  | dct {a : Addr} : H a = some (.dK []) → DT H (.ref a) (.dict [])
inductive DTs (H : Hp) : List V → List PyData → Prop
  | nil : DTs H [] []
  | cons {v : V} {vs : List V} {d : PyData} {ds : List PyData} : DT H v d → DTs H vs ds → DTs H (v :: vs) (d :: ds)
end
mutual
theorem DT.same {H H' : Hp} (s : Same H H') : ∀ (d : PyData) {v : V}, DT H v d → DT H' v d
  | .none, _, h => by cases h; exact .non
  | .bool _, _, h => by cases h; exact .bl _
  | .int _, _, h => by cases h; exact .int _
  | .str _, _, h => by cases h; exact .str _
  | .list ds, _, h => by
    cases h with
    | lst e r => exact .lst (s _ _ e) (DTs.same s ds r)
  | .tuple ds, _, h => by
    cases h with
    | tup e r => exact .tup (s _ _ e) (DTs.same s ds r)
  | .dict _, _, h => by
    cases h with
    | dct e => exact .dct (s _ _ e)
theorem DTs.same {H H' : Hp} (s : Same H H') : ∀ (ds : List PyData) {vs : List V}, DTs H vs ds → DTs H' vs ds
  | [], _, h => by cases h; exact .nil
  | d :: ds, _, h => by
    cases h with
    | cons a r => exact .cons (DT.same s d a) (DTs.same s ds r)
end
theorem DTs.length {H : Hp} : ∀ {ds : List PyData} {vs : List V}, DTs H vs ds → vs.length = ds.length
  | [], _, h => by cases h; rfl
  | d :: ds, _, h => by
    cases h with
    | cons a r =>
      rw [List.length_cons, List.length_cons, DTs.length r]
theorem DTs.get {H : Hp} : ∀ {ds : List PyData} {vs : List V} {j : Nat} {v : V} {d : PyData}, DTs H vs ds → vs[j]? = some v → ds[j]? = some d → DT H v d
  | [], _, j, v, d, h, e, f => by simp at f
  | d0 :: ds, _, 0, v, d, h, e, f => by
    cases h with
    | cons a r =>
      simp at e f
      rw [← e, ← f]
      exact a
  | d0 :: ds, _, j + 1, v, d, h, e, f => by
    cases h with
    | cons a r =>
      simp at e f
      exact r.get e f
/-! ### types -/
def tyN : PyData → String
  | .none => "NoneType"
  | .bool _ => "bool"
  | .int _ => "int"
  | .str _ => "str"
  | .list _ => "list"
  | .tuple _ => "tuple"
  | .dict _ => "dict"
def isS : PyData → Bool
  | .str _ => true
  | _ => false
def isL : PyData → Bool
  | .list _ => true
  | _ => false
def isTu : PyData → Bool
  | .tuple _ => true
  | _ => false
theorem DT.ty {K : PySem.W.Frag} {H : Hp} {v : V} : ∀ {d : PyData}, DT H v d → TyX K H v (.type (tyN d))
  | .none, h => by cases h; exact .base .non
  | .bool _, h => by cases h; exact .base (.bl _)
  | .int _, h => by cases h; exact .base (.int _)
  | .str _, h => by cases h; exact .base (.str _)
  | .list _, h => by
    cases h with
    | lst e _ => exact .base (.lst e)
  | .tuple _, h => by
    cases h with
    | tup e _ => exact .base (.tup e)
  | .dict _, h => by
    cases h with
    | dct e => exact .base (.dK e)
theorem kit_s : ∀ d : PyData, kitB (tyN d) "str" = some (isS d)
  | .none => by show kitB "NoneType" "str" = some false; decide +kernel
  | .bool _ => by show kitB "bool" "str" = some false; decide +kernel
  | .int _ => by show kitB "int" "str" = some false; decide +kernel
  | .str _ => by show kitB "str" "str" = some true; decide +kernel
  | .list _ => by show kitB "list" "str" = some false; decide +kernel
  | .tuple _ => by show kitB "tuple" "str" = some false; decide +kernel
  | .dict _ => by show kitB "dict" "str" = some false; decide +kernel
theorem kit_l : ∀ d : PyData, kitB (tyN d) "list" = some (isL d)
  | .none => by show kitB "NoneType" "list" = some false; decide +kernel
  | .bool _ => by show kitB "bool" "list" = some false; decide +kernel
  | .int _ => by show kitB "int" "list" = some false; decide +kernel
  | .str _ => by show kitB "str" "list" = some false; decide +kernel
  | .list _ => by show kitB "list" "list" = some true; decide +kernel
  | .tuple _ => by show kitB "tuple" "list" = some false; decide +kernel
  | .dict _ => by show kitB "dict" "list" = some false; decide +kernel
theorem kit_t : ∀ d : PyData, kitB (tyN d) "tuple" = some (isTu d)
  | .none => by show kitB "NoneType" "tuple" = some false; decide +kernel
  | .bool _ => by show kitB "bool" "tuple" = some false; decide +kernel
  | .int _ => by show kitB "int" "tuple" = some false; decide +kernel
  | .str _ => by show kitB "str" "tuple" = some false; decide +kernel
  | .list _ => by show kitB "list" "tuple" = some false; decide +kernel
  | .tuple _ => by show kitB "tuple" "tuple" = some true; decide +kernel
  | .dict _ => by show kitB "dict" "tuple" = some false; decide +kernel
/-- what a call of isinstance asks of data -/
theorem isi_s {K : PySem.W.Frag} {H : Hp} {v : V} {d : PyData} {Q : VK} (h : DT H v d) (q : Q (.bl (isS d)) H) : rIsi K [v, .ty "str"] H Q := ⟨_, _, _, _, _, rfl, .ty _, h.ty, kit_ty (kit_s d), q⟩
theorem isi_l {K : PySem.W.Frag} {H : Hp} {v : V} {d : PyData} {Q : VK} (h : DT H v d) (q : Q (.bl (isL d)) H) : rIsi K [v, .ty "list"] H Q := ⟨_, _, _, _, _, rfl, .ty _, h.ty, kit_ty (kit_l d), q⟩
theorem isi_t {K : PySem.W.Frag} {H : Hp} {v : V} {d : PyData} {Q : VK} (h : DT H v d) (q : Q (.bl (isTu d)) H) : rIsi K [v, .ty "tuple"] H Q := ⟨_, _, _, _, _, rfl, .ty _, h.ty, kit_ty (kit_t d), q⟩
/-! ### for the reckoning by ==: without dicts -/
mutual
def plain : PyData → Bool
  | .dict _ => false
  | .list ds => plains ds
  | .tuple ds => plains ds
  | _ => true
def plains : List PyData → Bool
  | [] => true
  | d :: ds => plain d && plains ds
end
mutual
theorem DT.dp {K : PySem.W.Frag} {H : Hp} : ∀ {d : PyData} {v : V}, plain d = true → DT H v d → Dp K H v d
  | .none, _, _, h => by cases h; exact .non
  | .bool _, _, _, h => by cases h; exact .bl _
  | .int _, _, _, h => by cases h; exact .int _
  | .str _, _, _, h => by cases h; exact .str _
  | .list ds, _, p, h => by
    cases h with
    | lst e r => exact .lst (SqL.of e) (DTs.dp (ds := ds) (by simpa [plain] using p) r)
  | .tuple ds, _, p, h => by
    cases h with
    | tup e r => exact .tup (SqT.of e) (DTs.dp (ds := ds) (by simpa [plain] using p) r)
  | .dict _, _, p, _ => by simp [plain] at p
theorem DTs.dp {K : PySem.W.Frag} {H : Hp} : ∀ {ds : List PyData} {vs : List V}, plains ds = true → DTs H vs ds → DpAll K H vs ds
  | [], _, _, h => by cases h; exact .nil
  | d :: ds, _, p, h => by
    cases h with
    | cons a r =>
      have p2 : plain d = true ∧ plains ds = true := by simpa [plains] using p
      exact .cons (DT.dp (d := d) p2.1 a) (DTs.dp (ds := ds) p2.2 r)
end
/-! ### lists made one by one, over any walk -/
theorem lc_mapW {J : It} {n : Nat} {G : Hp → Prop} {Y : Nat → Hp → V → Hp → Prop} {i : Nat} {te : TE} {σ : L2.St} {H1 : Hp} {D : Addr} {Qd : Hp → Prop} {ys : List V} (w : Walk J n G Y) (g0 : ∀ H, Same H1 H → G H) (y0 : ∀ j H x H', Y j H x H' → H' = H) (hD : H1 D = none) (len : ys.length = n) (small : n < 1000)
    (hs : ∀ (j : Nat) (x y : V) (H' : Hp) (Q : VK), Same H1 H' → Y j H' x H' → ys[j]? = some y → (∀ H'', Same H' H'' → Q y H'') → te ((wipe σ [i]).set i (some x)) H' Q)
    (hd : ∀ H', Same H1 H' → H' D = some (.lst ys) → Qd H') :
    ∃ W : Nat → Nat → Hp → Prop, (∃ m, W 0 m (upd H1 D (.lst []))) ∧ ∀ k m H, W k m H →
      (J.stop k H ∧ Qd H) ∨ (J.go k H ∧ ∃ Nx : Hp → Prop, (∀ H', Nx H' → ∃ m', m' < m ∧ W (k + 1) m' H') ∧ ∀ x H', J.yld k H x H' → gName i x (wipe σ [i]) H' fun σ2 H2 => wipe σ2 [i] = wipe σ [i] ∧ tYes σ2 H2 fun b H3 =>
        if b = true then te σ2 H3 fun y H4 => ∃ acc, H4 D = some (.lst acc) ∧ acc.length < sizeLine ∧ Nx (upd H4 D (.lst (acc ++ [y]))) else Nx H3) := by
  refine lc_it w (fun j H' => Same H1 H' ∧ H' D = some (.lst (ys.take j))) ⟨same_new hD, upd_same⟩ (fun j H' _ z => g0 H' z.1) ?_ ?_
  · rintro j x H H' hj ⟨s1, hd1⟩ y
    obtain rfl := y0 _ _ _ _ y
    have hy : ys[j]? = some ys[j] := List.getElem?_eq_getElem (by omega)
    refine ⟨?_, ?_⟩
    · show ((wipe σ [i]).set i (some x)).set i none = wipe σ [i]
      show ((σ.set i none).set i (some x)).set i none = σ.set i none
      rw [List.set_set, List.set_set]
    · show te ((wipe σ [i]).set i (some x)) H' _
      refine hs j x _ H' _ s1 y hy ?_
      intro H'' s2
      have e2 := s2 _ _ hd1
      refine ⟨_, e2, ?_, ?_, ?_⟩
      · rw [List.length_take]
        exact Nat.lt_of_le_of_lt (Nat.min_le_right _ _) (by rw [len]; exact small1000 (by omega))
      · intro b o e
        rw [upd_ne (ne_of_none e hD)]
        exact s2 _ _ (s1 _ _ e)
      · rw [upd_same, List.take_add_one, hy]
        rfl
  · rintro H' ⟨s1, hd1⟩
    rw [List.take_of_length_le (by omega)] at hd1
    exact hd H' s1 hd1
end Cb
set_option Elab.async false
set_option linter.all false
set_option maxRecDepth 100000
set_option maxHeartbeats 4000000
namespace Cb
open PySem PySem.Spec PyProof.Rows L2
/-! ### data that can be laid out and compared -/
mutual
def good : PyData → Bool
  | .none => true
  | .bool _ => true
  | .int _ => true
  | .str z => PyData.strOk z && decide (z.length ≤ 1000)
  | .list ds => decide (ds.length < 1000) && goods ds
  | .tuple ds => decide (ds.length < 1000) && goods ds
  | .dict _ => false
def goods : List PyData → Bool
  | [] => true
  | d :: ds => good d && goods ds
end
theorem goods_mem : ∀ {ds : List PyData} {d : PyData}, goods ds = true → d ∈ ds → good d = true
  | [], _, _, h => by cases h
  | e :: ds, d, g, h => by
    have g2 : good e = true ∧ goods ds = true := by simpa [goods] using g
    rcases List.mem_cons.mp h with rfl | h
    · exact g2.1
    · exact goods_mem g2.2 h
mutual
theorem good_can : ∀ d : PyData, good d = true → d.canLay0 = true
  | .none, _ => by simp [PyData.canLay0]
  | .bool _, _ => by simp [PyData.canLay0]
  | .int _, _ => by simp [PyData.canLay0]
  | .str z, h => by
    have h2 : PyData.strOk z = true ∧ z.length ≤ 1000 := by simpa [good] using h
    simpa [PyData.canLay0] using h2.1
  | .list ds, h => by
    have h2 : ds.length < 1000 ∧ goods ds = true := by simpa [good] using h
    simpa [PyData.canLay0] using goods_can ds h2.2
  | .tuple ds, h => by
    have h2 : ds.length < 1000 ∧ goods ds = true := by simpa [good] using h
    simpa [PyData.canLay0] using goods_can ds h2.2
  | .dict _, h => by simp [good] at h
theorem goods_can : ∀ ds : List PyData, goods ds = true → PyData.canLayAll0 ds = true
  | [], _ => by simp [PyData.canLayAll0]
  | d :: ds, h => by
    have g2 : good d = true ∧ goods ds = true := by simpa [goods] using h
    simp [PyData.canLayAll0, good_can d g2.1, goods_can ds g2.2]
end
mutual
theorem good_plain : ∀ d : PyData, good d = true → plain d = true
  | .none, _ => by simp [plain]
  | .bool _, _ => by simp [plain]
  | .int _, _ => by simp [plain]
  | .str z, h => by simp [plain]
  | .list ds, h => by
    have h2 : ds.length < 1000 ∧ goods ds = true := by simpa [good] using h
    simpa [plain] using goods_plain ds h2.2
  | .tuple ds, h => by
    have h2 : ds.length < 1000 ∧ goods ds = true := by simpa [good] using h
    simpa [plain] using goods_plain ds h2.2
  | .dict _, h => by simp [good] at h
theorem goods_plain : ∀ ds : List PyData, goods ds = true → plains ds = true
  | [], _ => by simp [plains]
  | d :: ds, h => by
    have g2 : good d = true ∧ goods ds = true := by simpa [goods] using h
    simp [plains, good_plain d g2.1, goods_plain ds g2.2]
end
/-- good, and not too deep -/
structure OKd (d : PyData) : Prop where
  good : good d = true
  dep : d.depth ≤ 60
theorem OKd.shaped {d : PyData} (h : OKd d) : SeqAt.shaped d = true := by
  unfold SeqAt.shaped
  rw [good_can d h.good, Bool.true_and]
  exact decide_eq_true (Nat.le_trans h.dep (by decide))
theorem OKd.mem_l {d : PyData} {ds : List PyData} (h : OKd (.list ds)) (m : d ∈ ds) : OKd d := by
  have g := h.good
  have g2 : ds.length < 1000 ∧ goods ds = true := by simpa [Cb.good] using g
  refine ⟨goods_mem g2.2 m, ?_⟩
  have := PyData.depth_le_depthAll ds d m
  have h2 := h.dep
  simp only [PyData.depth] at h2
  omega
theorem OKd.mem_t {d : PyData} {ds : List PyData} (h : OKd (.tuple ds)) (m : d ∈ ds) : OKd d := by
  have g := h.good
  have g2 : ds.length < 1000 ∧ goods ds = true := by simpa [Cb.good] using g
  refine ⟨goods_mem g2.2 m, ?_⟩
  have := PyData.depth_le_depthAll ds d m
  have h2 := h.dep
  simp only [PyData.depth] at h2
  omega
theorem OKd.len_l {ds : List PyData} (h : OKd (.list ds)) : ds.length < 1000 := by
  have g := h.good
  have g2 : ds.length < 1000 ∧ goods ds = true := by simpa [Cb.good] using g
  exact g2.1
theorem OKd.len_t {ds : List PyData} (h : OKd (.tuple ds)) : ds.length < 1000 := by
  have g := h.good
  have g2 : ds.length < 1000 ∧ goods ds = true := by simpa [Cb.good] using g
  exact g2.1
theorem OKd.len_s {z : Str} (h : OKd (.str z)) : z.length ≤ 1000 := by
  have g := h.good
  have g2 : PyData.strOk z = true ∧ z.length ≤ 1000 := by simpa [Cb.good] using g
  exact g2.2
theorem okd_str {z : Str} (h : PyData.strOk z = true) (l : z.length ≤ 1000) : OKd (.str z) := by
  refine ⟨?_, ?_⟩
  · simp [Cb.good, h, l]
  · simp [PyData.depth]
/-! ### == of an item and a text -/
theorem eqv_str (z y : Str) : PyData.eqv (.str z) (.str y) = decide (z = y) := by
  simp only [PyData.eqv]
  by_cases h : z = y <;> simp [h]
def isStr (y : Str) : PyData → Bool
  | .str z => decide (z = y)
  | _ => false
theorem eqv_isStr (y : Str) : ∀ d : PyData, PyData.eqv d (.str y) = isStr y d
  | .none => by simp [PyData.eqv, isStr]
  | .bool _ => by simp [PyData.eqv, isStr]
  | .int _ => by simp [PyData.eqv, isStr]
  | .str z => eqv_str z y
  | .list _ => by simp [PyData.eqv, isStr]
  | .tuple _ => by simp [PyData.eqv, isStr]
  | .dict _ => by simp [PyData.eqv, isStr]
/-! ### tests of what is known -/
theorem ifNot {p : Prop} [Decidable p] {A B : Prop} (hA : ¬ p → A) (hB : p → B) : if (!decide p) = true then A else B := by
  by_cases h : p
  · rw [decide_eq_true h]
    exact iteF (hB h)
  · rw [decide_eq_false h]
    exact iteT (hA h)
theorem ifB {b : Bool} {A B : Prop} (hA : b = true → A) (hB : b = false → B) : if b = true then A else B := by
  cases b with
  | true => exact iteT (hA rfl)
  | false => exact iteF (hB rfl)
theorem ifN {z y : Str} {A B : Prop} (h : ¬ z = y) (b : B) : if decide (V.str z = V.str y) = true then A else B := by
  rw [decide_eq_false (fun e => h (V.str.inj e))]
  exact iteF b
theorem ifY {z y : Str} {A B : Prop} (h : z = y) (a : A) : if decide (V.str z = V.str y) = true then A else B := by
  rw [decide_eq_true (congrArg V.str h)]
  exact iteT a
/-! ### signs of texts -/
def lowC (c : Nat) : Bool := decide (97 ≤ c) && decide (c ≤ 122)
def digC (c : Nat) : Bool := decide (48 ≤ c) && decide (c ≤ 57)
theorem lt1 (a c : Nat) : ([c] < [a]) ↔ c < a := by
  rw [List.cons_lt_cons_iff]
  simp
end Cb
set_option Elab.async false
set_option linter.all false
set_option maxRecDepth 100000
set_option maxHeartbeats 4000000
namespace Cb
open PySem PySem.Spec PyProof.Rows L2
/-! ### what is not looked at -/
def hid (S : List Addr) (H : Hp) : Hp := fun b => if b ∈ S then none else H b
def Keep (S : List Addr) (H H' : Hp) : Prop := ∀ b o, b ∉ S → H b = some o → H' b = some o
theorem hid_at {S : List Addr} {H : Hp} {b : Addr} {o : HO} (n : b ∉ S) (e : H b = some o) : hid S H b = some o := by
  unfold hid
  rw [if_neg n]
  exact e
theorem hid_out {S : List Addr} {H : Hp} {b : Addr} {o : HO} (e : hid S H b = some o) : b ∉ S ∧ H b = some o := by
  unfold hid at e
  split at e
  · cases e
  · exact ⟨by assumption, e⟩
theorem Keep.hid {S : List Addr} {H H' : Hp} (k : Keep S H H') : Same (hid S H) (hid S H') := fun b o e => by
  obtain ⟨n, e2⟩ := hid_out e
  exact hid_at n (k b o n e2)
theorem hid_same {S : List Addr} {H : Hp} : Same (hid S H) H := fun b o e => (hid_out e).2
theorem hid_mono {S S' : List Addr} {H : Hp} (h : ∀ b, b ∈ S → b ∈ S') : Same (hid S' H) (hid S H) := fun b o e => by
  obtain ⟨n, e2⟩ := hid_out e
  exact hid_at (fun z => n (h b z)) e2
theorem Same.keep {S : List Addr} {H H' : Hp} (s : Same H H') : Keep S H H' := fun b o _ e => s b o e
theorem Keep.trans {S : List Addr} {H H' H'' : Hp} (a : Keep S H H') (b : Keep S H' H'') : Keep S H H'' := fun c o n e => b c o n (a c o n e)
theorem Keep.refl {S : List Addr} {H : Hp} : Keep S H H := fun _ _ _ e => e
theorem Keep.mono {S S' : List Addr} {H H' : Hp} (k : Keep S H H') (h : ∀ b, b ∈ S → b ∈ S') : Keep S' H H' := fun b o n e => k b o (fun z => n (h b z)) e
/-- writing what is hidden -/
theorem keep_upd {S : List Addr} {H : Hp} {p : Addr} {o : HO} (h : p ∈ S) : Keep S H (upd H p o) := fun b u n e => by
  rw [upd_ne (show b ≠ p from fun z => n (by rw [z]; exact h))]
  exact e
theorem keep_new {S : List Addr} {H : Hp} {p : Addr} {o : HO} (h : H p = none) : Keep S H (upd H p o) := fun b u _ e => same_new h b u e
/-- what was new when S' was told may be hidden no more -/
theorem Keep.less {S S' : List Addr} {H H' : Hp} (k : Keep S' H H') (h : ∀ b, b ∈ S' → b ∉ S → H b = none) : Keep S H H' := fun b o n e => by
  by_cases z : b ∈ S'
  · rw [h b z n] at e
    cases e
  · exact k b o z e
/-! ### data of bounded size -/
def fit : List Nat → PyData → Bool
  | _, .none => true
  | _, .bool _ => true
  | _, .int i => decide (i = 0) || decide (i = 7)
  | _, .str z => PyData.strOk z && decide (z.length ≤ 40)
  | w :: ws, .list ds => decide (ds.length ≤ w) && ds.all (fit ws)
  | w :: ws, .tuple ds => decide (ds.length ≤ w) && ds.all (fit ws)
  | _, _ => false
def bulk : List Nat → Nat
  | [] => 40
  | w :: ws => 40 + w * (bulk ws + 1)
theorem bulk_40 : ∀ ws, 40 ≤ bulk ws
  | [] => Nat.le_refl _
  | w :: ws => by
    unfold bulk
    omega
theorem weightAll_le {n : Nat} : ∀ {ds : List PyData}, (∀ d ∈ ds, d.weight ≤ n) → PyData.weightAll ds ≤ ds.length * (n + 1)
  | [], _ => by simp [PyData.weightAll]
  | d :: ds, h => by
    have h1 := h d (List.mem_cons_self ..)
    have h2 := weightAll_le (ds := ds) fun e he => h e (List.mem_cons_of_mem _ he)
    simp only [PyData.weightAll, List.length_cons]
    rw [Nat.add_mul]
    omega
theorem canAll {ds : List PyData} (h : ∀ d ∈ ds, d.canLay0 = true) : PyData.canLayAll0 ds = true := by
  induction ds with
  | nil => simp [PyData.canLayAll0]
  | cons d ds ih => simp [PyData.canLayAll0, h d (List.mem_cons_self ..), ih fun e he => h e (List.mem_cons_of_mem _ he)]
theorem depthAll_le {n : Nat} {ds : List PyData} (h : ∀ d ∈ ds, d.depth ≤ n) : PyData.depthAll ds ≤ n := by
  induction ds with
  | nil => simp [PyData.depthAll]
  | cons d ds ih =>
    have h1 := h d (List.mem_cons_self ..)
    have h2 := ih fun e he => h e (List.mem_cons_of_mem _ he)
    simp only [PyData.depthAll]
    omega
/-- what fits is good, can be laid out, compared and shown -/
structure Fits (ws : List Nat) (d : PyData) : Prop where
  good : good d = true
  dep : d.depth ≤ ws.length
  wgt : d.weight ≤ bulk ws
  short : d.intsShort 13 = true
  shw : d.showable = true
  nod : d.hasDict = false
theorem goods_of : ∀ {ds : List PyData}, (∀ d ∈ ds, good d = true) → goods ds = true
  | [], _ => rfl
  | d :: ds, h => by
    simp only [goods, h d (List.mem_cons_self ..), goods_of (ds := ds) fun e he => h e (List.mem_cons_of_mem _ he), Bool.and_self]
theorem showAll_of : ∀ {ds : List PyData}, (∀ d ∈ ds, d.showable = true) → PyData.showableAll ds = true
  | [], _ => by simp [PyData.showableAll]
  | d :: ds, h => by
    simp only [PyData.showableAll, h d (List.mem_cons_self ..), showAll_of (ds := ds) fun e he => h e (List.mem_cons_of_mem _ he), Bool.and_self]
theorem shortAll_of : ∀ {ds : List PyData}, (∀ d ∈ ds, d.intsShort 13 = true) → PyData.intsShortAll 13 ds = true
  | [], _ => by simp [PyData.intsShortAll]
  | d :: ds, h => by
    simp only [PyData.intsShortAll, h d (List.mem_cons_self ..), shortAll_of (ds := ds) fun e he => h e (List.mem_cons_of_mem _ he), Bool.and_self]
theorem nodAll_of : ∀ {ds : List PyData}, (∀ d ∈ ds, d.hasDict = false) → PyData.hasDictAll ds = false
  | [], _ => by simp [PyData.hasDictAll]
  | d :: ds, h => by
    simp only [PyData.hasDictAll, h d (List.mem_cons_self ..), nodAll_of (ds := ds) fun e he => h e (List.mem_cons_of_mem _ he), Bool.or_self]
theorem log_100 {i : Int} (h : i.natAbs < 100) : i.natAbs.log2 < 1920 := Nat.lt_of_lt_of_le (PySem.Flt.log2_lt_of (by decide) (show i.natAbs < 2 ^ 7 by omega)) (by decide)
theorem fits_of : ∀ (ws : List Nat), (∀ w ∈ ws, w < 1000) → ∀ d : PyData, fit ws d = true → Fits ws d
  | ws, _, .none, _ => ⟨rfl, by simp [PyData.depth], by simp [PyData.weight], by simp [PyData.intsShort], by simp [PyData.showable], by simp [PyData.hasDict]⟩
  | ws, _, .bool _, _ => ⟨rfl, by simp [PyData.depth], by simp [PyData.weight], by simp [PyData.intsShort], by simp [PyData.showable], by simp [PyData.hasDict]⟩
  | ws, _, .int i, h => by
    have h2 : i = 0 ∨ i = 7 := by cases ws <;> simpa [fit] using h
    have h40 := bulk_40 ws
    rcases h2 with rfl | rfl
    · exact ⟨rfl, by simp [PyData.depth], by simp [PyData.weight], by decide +kernel, by decide +kernel, by simp [PyData.hasDict]⟩
    · exact ⟨rfl, by simp [PyData.depth], Nat.le_trans (by decide +kernel) h40, by decide +kernel, by decide +kernel, by simp [PyData.hasDict]⟩
  | ws, _, .str z, h => by
    have h2 : PyData.strOk z = true ∧ z.length ≤ 40 := by cases ws <;> simpa [fit] using h
    have h40 := bulk_40 ws
    refine ⟨?_, by simp [PyData.depth], ?_, by simp [PyData.intsShort], by simp [PyData.showable], by simp [PyData.hasDict]⟩
    · simp only [Cb.good, h2.1, Bool.true_and]
      exact decide_eq_true (Nat.le_trans h2.2 (by decide))
    · simp only [PyData.weight]
      exact Nat.le_trans h2.2 h40
  | [], _, .list _, h => by simp [fit] at h
  | [], _, .tuple _, h => by simp [fit] at h
  | [], _, .dict _, h => by simp [fit] at h
  | _ :: _, _, .dict _, h => by simp [fit] at h
  | w :: ws, hw, .list ds, h => by
    have h2 : ds.length ≤ w ∧ ds.all (fit ws) = true := by simpa only [fit, Bool.and_eq_true, decide_eq_true_eq] using h
    have all : ∀ d ∈ ds, Fits ws d := fun d hd => fits_of ws (fun x hx => hw x (List.mem_cons_of_mem _ hx)) d (List.all_eq_true.mp h2.2 d hd)
    have w1 := hw w (List.mem_cons_self ..)
    refine ⟨?_, ?_, ?_, ?_, ?_, ?_⟩
    · simp only [Cb.good, goods_of fun d hd => (all d hd).good, Bool.and_true]
      exact decide_eq_true (by omega)
    · have := depthAll_le fun d hd => (all d hd).dep
      simp only [PyData.depth, List.length_cons]
      omega
    · have h3 := weightAll_le fun d hd => (all d hd).wgt
      have h4 : ds.length * (bulk ws + 1) ≤ w * (bulk ws + 1) := Nat.mul_le_mul_right _ h2.1
      simp only [PyData.weight, bulk]
      omega
    · simp only [PyData.intsShort]
      exact shortAll_of fun d hd => (all d hd).short
    · simp only [PyData.showable]
      exact showAll_of fun d hd => (all d hd).shw
    · simp only [PyData.hasDict]
      exact nodAll_of fun d hd => (all d hd).nod
  | w :: ws, hw, .tuple ds, h => by
    have h2 : ds.length ≤ w ∧ ds.all (fit ws) = true := by simpa only [fit, Bool.and_eq_true, decide_eq_true_eq] using h
    have all : ∀ d ∈ ds, Fits ws d := fun d hd => fits_of ws (fun x hx => hw x (List.mem_cons_of_mem _ hx)) d (List.all_eq_true.mp h2.2 d hd)
    have w1 := hw w (List.mem_cons_self ..)
    refine ⟨?_, ?_, ?_, ?_, ?_, ?_⟩
    · simp only [Cb.good, goods_of fun d hd => (all d hd).good, Bool.and_true]
      exact decide_eq_true (by omega)
    · have := depthAll_le fun d hd => (all d hd).dep
      simp only [PyData.depth, List.length_cons]
      omega
    · have h3 := weightAll_le fun d hd => (all d hd).wgt
      have h4 : ds.length * (bulk ws + 1) ≤ w * (bulk ws + 1) := Nat.mul_le_mul_right _ h2.1
      simp only [PyData.weight, bulk]
      omega
    · simp only [PyData.intsShort]
      exact shortAll_of fun d hd => (all d hd).short
    · simp only [PyData.showable]
      exact showAll_of fun d hd => (all d hd).shw
    · simp only [PyData.hasDict]
      exact nodAll_of fun d hd => (all d hd).nod
theorem Fits.ok {ws : List Nat} {d : PyData} (f : Fits ws d) (l : ws.length ≤ 60) : OKd d := ⟨f.good, Nat.le_trans f.dep l⟩
theorem Fits.len {ws : List Nat} {d : PyData} (f : Fits ws d) (l : ws.length ≤ 60) (b : bulk ws ≤ 2 ^ 20) : d.shown.length ≤ sizeLine := by
  refine Nat.le_trans (PyProof.Rows.shown_le13 ?_ f.short) (by decide)
  simp only [PyData.layable0, good_can d f.good, Bool.true_and, Bool.and_eq_true, decide_eq_true_eq]
  exact ⟨Nat.le_trans f.dep (by omega), Nat.le_trans f.wgt b⟩
/-- its text, asked by call_repr -/
theorem r_fits {K : PySem.W.Frag} {u : Nat} {H : Hp} {Q : VK} {v : V} {d : PyData} {ws : List Nat} (h : DT H v d) (f : Fits ws d) (l : ws.length ≤ 60) (b : bulk ws ≤ 2 ^ 20) (hu : u + 200 < cLine) (q : Q (.str (PyData.shown d)) H) : rRepr K u [v] H Q := by
  unfold rRepr
  exact ⟨v, d, rfl, h.dp (good_plain d f.good), f.shw, f.nod, by have := f.dep; omega, .inr (f.len l b), q⟩
end Cb
set_option Elab.async false
set_option linter.all false
set_option maxRecDepth 100000
set_option maxHeartbeats 4000000
namespace Cb
open PySem PySem.Spec PyProof.Rows L2
/-! ### set(xs) of a list of whole numbers -/
def freshSet (w : World) : Obj := { cls := .type "set", dict := none, data := .set #[] 0 (.fresh 0 0 (!w.params.followText "set-order")) }
def rSetL (K : PySem.W.Frag) (w : World) : List V → Hp → VK → Prop := fun xs H Q => ∃ (a : Addr) (ns : List Int), xs = [.ref a] ∧ SqL K H a (ns.map V.int) ∧ ns.length < 1000 ∧
  ∀ (p : Addr) (n : Nat), H p = none → n ≤ ns.length → Q (.ref p) (upd H p (SetO w p (fun j => decide (j ∈ ns)) n))
section
variable {P : Program} {w : World} {A : Around} {E : Value → Shared → Prop} {s : Shared}
theorem set_ofL {a : Addr} {vs : Array Value} (ns : List Int) {Q : Value → Shared → Prop} (calm : A.handled = none) (la : s.heap.IsList a vs) (ints_ : IntsAre vs.toList ns) (few : ns.length + 1 < scanBound)
    (q : ∀ (h2 : Heap) (t2 c2 : Nat), SetR w h2 s.heap.objs.size (fun j => decide (j ∈ ns)) c2 → c2 ≤ ns.length → (∀ b o, s.heap.get? b = some o → h2.get? b = some o) → Q (.ref s.heap.objs.size) { s with heap := h2, toks := t2 }) :
    wpAny (model P w) A (call (.type "set") [.ref a]) Q E s := by
  have many : vs.size = ns.length := by
    have := IntsAre.length ints_
    rwa [Array.length_toList] at this
  obtain ⟨c0, tl0, m0⟩ := F.called_set.mro
  have m1 := F.called_set.made
  have m2 := F.called_set.sub
  refine wpAny_call (codeAny_of_tree ?_)
  show wpAny _ _ (callAny (.type "set") _) _ _ _
  refine wpAny_pure ⟨Code.quiet_builtin _ (by decide +kernel), codeAny_builtin F.entry_type_call ?_⟩
  rw [Around.under_plain (weight_type_call_type "set" [.ref a] []) rfl]
  have m3 := F.called_set.notType
  have m4 := F.called_set.canCreate
  have m5 := F.typeCall_set_1 (.ref a)
  repeat (any_goals (first | assumption | wp_step))
  refine codeAny_mono (code_set_led1 (.ref a) (E := E) (Q₁ := fun obj s1 => obj = .ref s.heap.objs.size ∧ s1 = { s with heap := s.heap.push (freshSet w) }) ⟨rfl, rfl⟩) fun r s1 hr => ?_
  cases r with
  | error e => exact hr
  | ok fl =>
    cases fl with
    | ret obj =>
      obtain ⟨rfl, rfl⟩ := hr
      have at1 : (s.heap.push (freshSet w)).get? s.heap.objs.size = some (freshSet w) := Heap.get?_push_size _ rfl
      have ty1 : Shared.TypeIs { s with heap := s.heap.push (freshSet w) } (.ref s.heap.objs.size) "set" := ⟨_, at1, rfl⟩
      have n1 := F.called_set.init.lookup
      have n2 := F.called_set.init.bind (.ref s.heap.objs.size)
      repeat (any_goals (first | assumption | wp_step))
      refine codeAny_mono (codeAny_call_builtin (R := wants (fun r s2 => r = .none ∧ ∃ h2 t2 c2, s2 = { s with heap := h2, toks := t2 } ∧ SetR w h2 s.heap.objs.size (fun j => decide (j ∈ ns)) c2 ∧ c2 ≤ ns.length ∧
          (∀ b o, s.heap.get? b = some o → h2.get? b = some o)) E) F.called_set.init.plain F.entry_set_init (check_set_init_1 ty1 ?_)) fun r2 s2 hr2 => ?_
      · obtain ⟨ol, hol, hcl, nl, hdl⟩ := la
        obtain ⟨ocls, odict, odata, oslots⟩ := ol
        simp only at hcl hdl
        subst hcl hdl
        have hol' : (s.heap.push (freshSet w)).get? a = some { cls := .type "list", dict := odict, data := .seq vs nl, slots := oslots } := Heap.get?_push_of_some _ hol
        have f1 := F.sub_list_set
        have f2 := F.sub_list_frozenset
        have f3 : (Value.type "list" == Value.type "dict") = false := by decide
        have la1 : (s.heap.push (freshSet w)).IsList a vs := ⟨_, hol', rfl, nl, rfl⟩
        unfold Builtin.«set.__init__» noKeywords Builtin.Frozenset.updateFrom
        generalize hPI : pyIter = PI
        wp_walk
        subst hPI
        refine wpAny_pyIter_list la1 (wpAny_bind (wpAny_runValue ?_))
        have low : a < s.heap.objs.size := Heap.lt_size hol
        have calm3 : A.in1.in1.in1.handled = none := by simp [calm]
        have sz : (s.heap.push (freshSet w)).objs.size = s.heap.objs.size + 1 := Heap.size_push ..
        have ne1 : a ≠ (s.heap.push (freshSet w)).objs.size := by rw [sz]; exact Nat.ne_of_lt (Nat.lt_succ_of_lt low)
        have nin : s.heap.objs.size ∉ [(s.heap.push (freshSet w)).objs.size, a] := by
          rw [sz]
          simp only [List.mem_cons, List.not_mem_nil, or_false, not_or]
          exact ⟨Nat.ne_of_lt (Nat.lt_succ_self _), Nat.ne_of_gt low⟩
        have vals : ∀ (i : Nat) (v : Value), vs[i]? = some v → ∃ k t, ns[i]? = some k ∧ v = .int k t := fun i v hv => by
          have hi : i < ns.length := by rw [← many]; exact (Array.getElem?_eq_some_iff.mp hv).1
          obtain ⟨t, e⟩ := PyProof.Rows.IntsAre.int_at ints_ i v (by rw [Array.getElem?_toList]; exact hv)
          exact ⟨ns[i], t, List.getElem?_eq_getElem hi, by rw [e, List.getD_eq_getElem?_getD, List.getElem?_eq_getElem hi] <;> rfl⟩
        have got1 : ((s.heap.push (freshSet w)).push { cls := .type "list_iterator", data := .fields #[.ref a, .int 0 0] }).get? s.heap.objs.size = some (freshSet w) := Heap.get?_push_of_some _ at1
        refine set_update_ints ((Walks.list calm3 _ a ne1 vs).toS) s.heap.objs.size nin ns many few vals (vs.size - 0) 0 _ (by omega) (Nat.zero_le _) ⟨⟨_, Heap.get?_push_size _ rfl, rfl, rfl⟩, (la1.push _)⟩
          ⟨0, Nat.le_refl 0, setR_new_at got1⟩ fun s3 c3 hm hc3 hS3 => ?_
        obtain ⟨h3, g3, d3, t3, os3⟩ := s3
        obtain rfl : g3 = s.gens := hm.gens
        obtain rfl : d3 = s.drawn := hm.drawn
        obtain rfl : os3 = s.os := hm.os
        show wpAny _ _ _ _ _ _
        refine wpAny_pure ?_
        show wpAny _ _ (ret Value.none) _ _ _
        rw [many] at hc3
        refine wpAny_pure ⟨rfl, h3, t3, c3, rfl, hS3, hc3, fun b o e => ?_⟩
        have b0 : b < s.heap.objs.size := Heap.lt_size e
        have b1 : b ≠ (s.heap.push (freshSet w)).objs.size := by rw [sz]; exact Nat.ne_of_lt (Nat.lt_succ_of_lt b0)
        refine hm.heap b o ?_ (Heap.get?_push_of_some _ (Heap.get?_push_of_some _ e))
        simp only [List.mem_cons, List.not_mem_nil, or_false, not_or]
        exact ⟨Nat.ne_of_lt b0, b1⟩
      · cases r2 with
        | error e => exact hr2
        | ok fl2 =>
          cases fl2 with
          | ret r =>
            obtain ⟨rfl, h2, t2, c2, rfl, hS2, hc2, hk2⟩ := hr2
            repeat (any_goals (first | assumption | wp_step))
            exact q _ _ _ hS2 hc2 hk2
          | _ => exact hr2.elim
    | _ => exact hr.elim
end
section
variable {X : Cx}
theorem call_setL (hc : X.calm = true) : CallR X (.type "set") (rSetL X.K X.w) := by
  intro pins s σ H xs us Q I r h
  obtain ⟨a, ns, rfl, hs, few, q⟩ := h
  rw [Vals.ref1 r]
  obtain ⟨its, rv, pl, hz⟩ := I.list hs
  have hi := ints_of_vals rv
  refine set_ofL ns (I.ok.hd hc) pl.isList (by simpa using hi) (by unfold scanBound; omega) fun h2 t2 c2 R le k => ?_
  exact ⟨.ref _, upd H s.heap.objs.size (SetO X.w s.heap.objs.size (fun j => decide (j ∈ ns)) c2), I.laid (t' := t2) k (Nat.le_refl _) (setO_new R), rfl, q _ _ (I.hok.fresh (Nat.le_refl _)) le⟩
end
end Cb
set_option Elab.async false
set_option linter.all false
set_option maxRecDepth 100000
set_option maxHeartbeats 4000000
namespace Cb
open PySem PySem.Spec PyProof.Rows L2
/-! ### sum(xss, zs) of lists -/
theorem args_sum2 (a b : Value) : argsOk "sum" ⟨[a, b], []⟩ := by
  unfold argsOk
  kernel_rfl
section
variable {prog : Program} {w : World} {A : Around} {R : Result → Shared → Prop}
theorem sum_loopL {I S l st : Addr} {vs : Array Value} {h0 : Heap} {zs : List (List Value)} {total : List Value} {s0 : Shared} (calm : A.in1.handled = none) (nl : l ≠ I) (nS : S ≠ I) (nSl : S ≠ l) (bI : h0.objs.size ≤ I) (bS : h0.objs.size ≤ S)
    (hz : ∀ (i : Nat) (v : Value), vs[i]? = some v → ∃ (b : Addr) (z : List Value) (n : Nat), v = .ref b ∧ zs[i]? = some z ∧ IsL h0 b z.toArray n) (many : zs.length = vs.size) (room : total.length ≤ sizeLine)
    (hR : ∀ s' acc m, s'.gens = s0.gens → s'.drawn = s0.drawn → s'.os = s0.os → (∀ b o, h0.get? b = some o → s'.heap.get? b = some o) → IsL s'.heap acc total.toArray m → (vs.size = 0 ∧ acc = st) ∨ h0.objs.size ≤ acc → R (.ok (.ret (.ref acc))) s') :
    ∀ (k i : Nat) (s : Shared) (acc : Addr) (c m : Nat) (Z : List Value), vs.size - i = k → i ≤ vs.size → s.gens = s0.gens → s.drawn = s0.drawn → s.os = s0.os → s.heap.IsListIter I l i → s.heap.IsList l vs →
      (∀ b o, h0.get? b = some o → s.heap.get? b = some o) → s.heap.get? S = some { cls := .type "list", dict := none, data := .seq #[.ref acc] c, slots := #[] } → IsL s.heap acc Z.toArray m → acc ≠ S → acc ≠ I →
      (i = 0 ∧ acc = st) ∨ h0.objs.size ≤ acc → Z ++ (zs.drop i).flatten = total →
      codeAny (model prog w) A (.builtin "sum.loop" ⟨[.ref I, .ref S, rawInt 2, rawInt 0], []⟩) R s := by
  have W := (Walks.list (prog := prog) (w := w) (A := A.in1) calm I l nl vs).toS
  have old : ∀ {b : Addr} {o : Obj}, h0.get? b = some o → b ≠ I ∧ b ≠ S := fun {b o} e => by
    have := Heap.lt_size e
    exact ⟨Nat.ne_of_lt (Nat.lt_of_lt_of_le this bI), Nat.ne_of_lt (Nat.lt_of_lt_of_le this bS)⟩
  intro k
  induction k with
  | zero =>
    intro i s acc c m Z hk hi e1 e2 e3 hit hl kp hS hacc a1 a2 a3 ez
    obtain rfl : i = vs.size := by omega
    refine codeAny_builtin F.entry_sum_loop ?_
    rw [Around.under_plainId F.plain_sum_loop _]
    show wpAny _ A.in1 (seqItems? (.ref S) >>= _) _ _ s
    refine wpAny_bind (wpAny_seqItems hS rfl ?_)
    show wpAny _ A.in1 (tryCatch (pyNext (.ref I)) _ >>= _) _ _ s
    refine wpAny_bind (wpAny_tryCatch (W.done s _ _ ⟨hit, hl⟩ fun s2 hm => ?_))
    have e0 : Z = total := by rw [← ez, List.drop_of_length_le (by omega)]; simp
    subst e0
    refine wpAny_pure (hR s2 acc m (hm.gens.trans e1) (hm.drawn.trans e2) (hm.os.trans e3) (fun b o e => hm.heap b o (by simpa using (old e).1) (kp b o e)) (hm.heap acc _ (by simpa using a2) hacc) ?_)
    rcases a3 with ⟨z1, z2⟩ | z
    · exact .inl ⟨z1, z2⟩
    · exact .inr z
  | succ k ih =>
    intro i s acc c m Z hk hi e1 e2 e3 hit hl kp hS hacc a1 a2 a3 ez
    have lt : i < vs.size := by omega
    refine codeAny_builtin F.entry_sum_loop ?_
    rw [Around.under_plainId F.plain_sum_loop _]
    show wpAny _ A.in1 (seqItems? (.ref S) >>= _) _ _ s
    refine wpAny_bind (wpAny_seqItems hS rfl ?_)
    show wpAny _ A.in1 (tryCatch (pyNext (.ref I)) _ >>= _) _ _ s
    refine wpAny_bind (wpAny_tryCatch (W.item i s _ _ lt ⟨hit, hl⟩ fun v s2 hP hst hm => ?_))
    obtain ⟨b, z, n, rfl, ezi, hb⟩ := hz i v hP
    have hS2 := hm.heap S _ (by simpa using nS) hS
    have ha2 := hm.heap acc _ (by simpa using a2) hacc
    have hb2 := hm.heap b _ (by simpa using (old hb).1) (kp _ _ hb)
    have hzi : zs.drop i = z :: zs.drop (i + 1) := by
      have li : i < zs.length := by omega
      rw [List.drop_eq_getElem_cons li]
      have : zs[i] = z := Option.some.inj ((List.getElem?_eq_getElem li).symm.trans ezi)
      rw [this]
    have fl : Z ++ z ++ (zs.drop (i + 1)).flatten = total := by
      rw [← ez, hzi, List.flatten_cons, List.append_assoc]
    have fit : Z.toArray.size + z.toArray.size ≤ sizeLine := by
      have := congrArg List.length fl
      rw [List.length_append, List.length_append] at this
      rw [List.size_toArray, List.size_toArray]
      omega
    show wpAny _ A.in1 ((holding [Value.ref b] (binaryOp .Add (.ref acc) (.ref b))).attempt >>= _) _ _ _
    refine wpAny_bind (wpAny_attempt (wpAny_holding (PySem.P.add_list ha2 hb2 ?_ fit)))
    have sI : I < s2.heap.objs.size := by
      obtain ⟨_, e, _⟩ := hst.1
      exact Heap.lt_size e
    have sl : l < s2.heap.objs.size := by
      obtain ⟨_, e, _⟩ := hst.2
      exact Heap.lt_size e
    have sS : S < s2.heap.objs.size := Heap.lt_size hS2
    have h0s : h0.objs.size ≤ s2.heap.objs.size := Nat.le_trans bS (Nat.le_of_lt sS)
    have hS3 := Heap.get?_push_of_some { cls := .type "list", data := .seq (Z.toArray ++ z.toArray) } hS2
    have hn3 : (s2.heap.push { cls := .type "list", data := .seq (Z.toArray ++ z.toArray) }).get? s2.heap.objs.size = some { cls := .type "list", data := .seq (Z.toArray ++ z.toArray) } := Heap.get?_push_size _ rfl
    have old3 : ∀ b o, s2.heap.get? b = some o → (s2.heap.push { cls := .type "list", data := .seq (Z.toArray ++ z.toArray) }).get? b = some o := fun b o e => Heap.get?_push_of_some _ e
    generalize s2.heap.push { cls := .type "list", data := .seq (Z.toArray ++ z.toArray) } = h3 at hS3 hn3 old3 ⊢
    show wpAny _ A.in1 (updateSeq S (fun _ => #[.ref s2.heap.objs.size]) >>= _) _ _ _
    refine wpAny_bind (wpAny_updateSeq hS3 rfl ?_)
    have hS4 := Heap.get?_update_self (Obj.mapSeq fun _ => #[Value.ref s2.heap.objs.size]) hS3 rfl
    refine wpAny_bind (wpAny_letGo ?_)
    refine wpAny_bind (wpAny_updateSeq hS4 rfl (wpAny_pure ⟨plainId_quiet F.plain_sum_loop _, ?_⟩))
    have hS5 := Heap.get?_update_self (Obj.mapSeq fun _ => #[Value.ref s2.heap.objs.size]) hS4 rfl
    have two : ∀ b o, b ≠ S → h3.get? b = some o → ((h3.update S (Obj.mapSeq fun _ => #[Value.ref s2.heap.objs.size])).update S (Obj.mapSeq fun _ => #[Value.ref s2.heap.objs.size])).get? b = some o := fun b o ne e =>
      (Heap.get?_update_other _ _ (fun h : S = b => ne h.symm)).trans ((Heap.get?_update_other _ _ (fun h : S = b => ne h.symm)).trans e)
    generalize (h3.update S (Obj.mapSeq fun _ => #[Value.ref s2.heap.objs.size])).update S (Obj.mapSeq fun _ => #[Value.ref s2.heap.objs.size]) = h5 at hS5 two ⊢
    have nSz : s2.heap.objs.size ≠ S := Nat.ne_of_gt sS
    refine ih (i + 1) { s2 with heap := h5 } s2.heap.objs.size _ 0 (Z ++ z) (by omega) lt (hm.gens.trans e1) (hm.drawn.trans e2) (hm.os.trans e3) ?_ ?_ ?_ hS5 ?_ nSz (Nat.ne_of_gt sI) (.inr h0s) fl
    · exact hst.1.at fun o e => two _ _ nS.symm (old3 _ _ e)
    · exact hst.2.at fun o e => two _ _ (fun q => nSl q.symm) (old3 _ _ e)
    · intro b o e
      exact two _ _ (old e).2 (old3 _ _ (hm.heap b o (by simpa using (old e).1) (kp b o e)))
    · refine two _ _ nSz ?_
      rw [hn3]
      simp
end
section
variable {prog : Program} {w : World} {A : Around} {E : Value → Shared → Prop} {s : Shared}
theorem sum_lists {l st : Addr} {vs : Array Value} {zs : List (List Value)} {Y : List Value} {m : Nat} {Q : Value → Shared → Prop} (calm : A.handled = none) (la : s.heap.IsList l vs) (hs : IsL s.heap st Y.toArray m)
    (hz : ∀ (i : Nat) (v : Value), vs[i]? = some v → ∃ (b : Addr) (z : List Value) (n : Nat), v = .ref b ∧ zs[i]? = some z ∧ IsL s.heap b z.toArray n) (many : zs.length = vs.size) (room : (Y ++ zs.flatten).length ≤ sizeLine)
    (q : ∀ s' acc m, s'.gens = s.gens → s'.drawn = s.drawn → s'.os = s.os → (∀ b o, s.heap.get? b = some o → s'.heap.get? b = some o) → IsL s'.heap acc (Y ++ zs.flatten).toArray m → (vs.size = 0 ∧ acc = st) ∨ s.heap.objs.size ≤ acc → Q (.ref acc) s') :
    wpAny (model prog w) A (call (.builtin "sum") [.ref l, .ref st]) Q E s := by
  refine call_function_tree F.kind_sum F.plain_sum F.entry_sum (args_sum2 _ _) ?_
  unfold Builtin.«sum»
  simp only [List.length_cons, List.length_nil]
  rw [if_neg (by decide)]
  refine wpAny_bind (wpAny_of_eq (show Builtin.Builtins.bindParams "sum" ["start"] 0 ⟨[.ref st], []⟩ = pure [some (.ref st)] from rfl) ?_)
  refine wpAny_bind (wpAny_pyIter_list la ?_)
  refine wpAny_bind (wpAny_pure ?_)
  simp only [List.forIn_cons, List.forIn_nil]
  have ll : l < s.heap.objs.size := by
    obtain ⟨_, e, _⟩ := la
    exact Heap.lt_size e
  have ls : st < s.heap.objs.size := Heap.lt_size hs
  have hs1 := Heap.get?_push_of_some { cls := .type "list_iterator", data := .fields #[.ref l, .int 0 0] } hs
  have ty : Shared.TypeIs { s with heap := s.heap.push { cls := .type "list_iterator", data := .fields #[.ref l, .int 0 0] } } (.ref st) "list" := ⟨_, hs1, rfl⟩
  refine wpAny_bind (wpAny_bind (wpAny_bind (wpAny_isInstance (T := "list") (b := false) ty F.sub_list_str ?_)))
  simp only [Bool.false_eq_true, if_false]
  refine wpAny_pure (wpAny_bind (wpAny_bind (wpAny_isInstance (T := "list") (b := false) ty F.sub_list_bytes ?_)))
  simp only [Bool.false_eq_true, if_false]
  refine wpAny_pure (wpAny_bind (wpAny_bind (wpAny_isInstance (T := "list") (b := false) ty F.sub_list_bytearray ?_)))
  simp only [Bool.false_eq_true, if_false]
  refine wpAny_pure (wpAny_pure ?_)
  refine wpAny_bind (wpAny_newObj_type ?_)
  refine wpAny_pure ⟨plainId_quiet F.plain_sum_loop _, ?_⟩
  have z1 : (s.heap.push { cls := .type "list_iterator", data := .fields #[.ref l, .int 0 0] }).objs.size = s.heap.objs.size + 1 := Heap.size_push ..
  have k1 : ∀ b o, s.heap.get? b = some o → (s.heap.push { cls := .type "list_iterator", data := .fields #[.ref l, .int 0 0] }).get? b = some o := fun b o e => Heap.get?_push_of_some _ e
  have it1 : (s.heap.push { cls := .type "list_iterator", data := .fields #[.ref l, .int 0 0] }).IsListIter s.heap.objs.size l 0 := ⟨_, Heap.get?_push_size _ rfl, rfl, rfl⟩
  generalize s.heap.push { cls := .type "list_iterator", data := .fields #[.ref l, .int 0 0] } = h1 at z1 k1 it1 hs1 ⊢
  refine sum_loopL (I := s.heap.objs.size) (S := h1.objs.size) (l := l) (st := st) (vs := vs) (h0 := s.heap) (zs := zs) (total := Y ++ zs.flatten) (s0 := s) (by simp [calm]) (Nat.ne_of_lt ll) (by rw [z1]; exact Nat.ne_of_gt (Nat.lt_succ_self _)) (by rw [z1]; exact Nat.ne_of_gt (Nat.lt_succ_of_lt ll)) (Nat.le_refl _) (by rw [z1]; exact Nat.le_succ _) hz many room
    (fun s' acc m a b c d e f => q s' acc m a b c d e f) (vs.size - 0) 0 _ st 0 m Y rfl (Nat.zero_le _) rfl rfl rfl ?_ ?_ ?_ (Heap.get?_push_size _ rfl) ?_ (by rw [z1]; exact Nat.ne_of_lt (Nat.lt_succ_of_lt ls)) (Nat.ne_of_lt ls) (.inl ⟨rfl, rfl⟩) (by simp)
  · exact it1.at fun o e => Heap.get?_push_of_some _ e
  · exact la.at fun o e => Heap.get?_push_of_some _ (k1 _ _ e)
  · exact fun b o e => Heap.get?_push_of_some _ (k1 _ _ e)
  · exact Heap.get?_push_of_some _ hs1
end
def rSumL (K : PySem.W.Frag) : List V → Hp → VK → Prop := fun xs H Q => ∃ (a st : Addr) (as : List Addr) (zss : List (List V)) (ys : List V), xs = [.ref a, .ref st] ∧ H a = some (.lst (as.map V.ref)) ∧ H st = some (.lst ys) ∧ zss.length = as.length ∧
  (∀ (i : Nat) (b : Addr) (z : List V), as[i]? = some b → zss[i]? = some z → H b = some (.lst z)) ∧ (ys ++ zss.flatten).length ≤ sizeLine ∧ ∀ (p : Addr) (H' : Hp), Same H H' → H' p = some (.lst (ys ++ zss.flatten)) → Q (.ref p) H'
section
variable {X : Cx}
theorem vals_flat : ∀ {zss : List (List V)} {uss : List (List Value)}, Paired (fun z u => Vals z u) zss uss → Vals zss.flatten uss.flatten
  | _, _, .nil => .nil
  | _, _, .cons h t => by
    rw [List.flatten_cons, List.flatten_cons]
    exact h.append (vals_flat t)
theorem call_sumL (hc : X.calm = true) : CallR X (.builtin "sum") (rSumL X.K) := by
  intro pins s σ H xs us Q I r h
  obtain ⟨a, st, as, zss, ys, rfl, ha, hst, hl, hb, room, q⟩ := h
  obtain ⟨u1, u2, rfl, r1, r2⟩ := vals2 r
  cases r1
  cases r2
  obtain ⟨z, its, n, rv, hl1, e⟩ := I.lstM ha
  obtain ⟨z2, its2, n2, rv2, hl2, e2⟩ := I.lstM hst
  have ei := refs_at rv
  subst ei
  have inner : ∀ (as : List Addr) (zss : List (List V)), zss.length = as.length → (∀ (i : Nat) (b : Addr) (z : List V), as[i]? = some b → zss[i]? = some z → H b = some (.lst z)) → ∃ uss : List (List Value), Paired (fun z u => Vals z u) zss uss ∧ uss.length = as.length ∧
      ∀ (i : Nat) (b : Addr), as[i]? = some b → ∃ (z : List Value) (n : Nat), uss[i]? = some z ∧ IsL s.heap b z.toArray n := by
    intro as
    induction as with
    | nil =>
      intro zss hl _
      obtain rfl : zss = [] := List.eq_nil_of_length_eq_zero hl
      exact ⟨[], .nil, rfl, fun i b e => by simp at e⟩
    | cons b as ih =>
      intro zss hl hb
      match zss, hl, hb with
      | z :: zss, hl, hb =>
        obtain ⟨uss, p, l, f⟩ := ih zss (by simpa using hl) fun i b z e1 e2 => hb (i + 1) b z (by simpa using e1) (by simpa using e2)
        obtain ⟨_, it, n, rv, _, e⟩ := I.lstM (hb 0 b z rfl rfl)
        refine ⟨it :: uss, .cons rv p, by simp [l], fun i b' e' => ?_⟩
        cases i with
        | zero =>
          obtain rfl : b = b' := by simpa using e'
          exact ⟨it, n, rfl, e⟩
        | succ i => exact f i b' (by simpa using e')
  obtain ⟨uss, up, ul, uf⟩ := inner as zss hl hb
  have fl := rv2.append (vals_flat up)
  refine sum_lists (Y := its2) (zs := uss) (m := n2) (I.ok.hd hc) ⟨_, e, rfl, n, rfl⟩ e2 ?_ ?_ ?_ ?_
  · intro i v hv
    rw [List.getElem?_toArray, List.getElem?_map] at hv
    cases hq : as[i]? with
    | none =>
      rw [hq] at hv
      cases hv
    | some b =>
      rw [hq] at hv
      obtain ⟨z, n, e1, e2⟩ := uf i b hq
      exact ⟨b, z, n, (Option.some.inj hv).symm, e1, e2⟩
  · rw [List.size_toArray, List.length_map, ul]
  · rw [← fl.length]
    exact room
  · intro s' acc m g d o k hacc w
    have es : s' = { s with heap := s'.heap, toks := s'.toks } := by
      cases s'
      cases s
      cases g
      cases d
      cases o
      rfl
    rw [es]
    rcases w with ⟨w1, rfl⟩ | w
    · rw [List.size_toArray, List.length_map] at w1
      obtain rfl : zss = [] := List.eq_nil_of_length_eq_zero (hl.trans w1)
      exact ⟨.ref acc, H, I.kept (t' := s'.toks) k, rfl, q _ _ (Same.refl _) (by simpa using hst)⟩
    · exact ⟨.ref acc, upd H acc (.lst (ys ++ zss.flatten)), I.laid (t' := s'.toks) k w ⟨room, _, _, fl, hacc⟩, rfl, q _ _ (same_new (I.hok.fresh w)) upd_same⟩
end
end Cb
set_option Elab.async false
set_option linter.all false
set_option maxRecDepth 100000
set_option maxHeartbeats 4000000
namespace Cb
open PySem PySem.Spec PyProof.Rows L2
def topS (i : Nat) : Stmt := PySem.Challenge.pw_cellbills_k50_whole_moves_at_once.main.body.getD i (.Pass ⟨0, 0, 0, 0⟩)
/-! ### small words -/
theorem ifNeI {i j : Int} {A B : Prop} (y : ¬ i = j → A) (n : i = j → B) : if (!decide (V.int i = V.int j)) = true then A else B := by
  by_cases h : i = j
  · rw [decide_eq_true (congrArg V.int h)]
    exact iteF (n h)
  · rw [decide_eq_false (fun e => h (V.int.inj e))]
    exact iteT (y h)
theorem ifEqI {i j : Int} {A B : Prop} (y : i = j → A) (n : ¬ i = j → B) : if decide (V.int i = V.int j) = true then A else B := by
  by_cases h : i = j
  · rw [decide_eq_true (congrArg V.int h)]
    exact iteT (y h)
  · rw [decide_eq_false (fun e => h (V.int.inj e))]
    exact iteF (n h)
theorem neN {x : V} {A B : Prop} (b : B) : if (!decide (x = x)) = true then A else B := by
  rw [decide_eq_true rfl]
  exact iteF b
theorem nin1 {a b : Addr} (h : a ≠ b) : a ∉ [b] := by simp [h]
theorem same_keep {S : List Addr} {H H' : Hp} (s : Same H H') : Keep S H H' := fun b o _ e => s b o e
theorem DTs.snoc {H : Hp} : ∀ {xs : List V} {ds : List PyData} {x : V} {d : PyData}, DTs H xs ds → DT H x d → DTs H (xs ++ [x]) (ds ++ [d])
  | _, [], _, _, h, a => by cases h; exact .cons a .nil
  | _, e :: ds, _, _, h, a => by
    cases h with
    | cons b r => exact .cons b (DTs.snoc (ds := ds) r a)
theorem DTs.app {H : Hp} : ∀ {xs ys : List V} {ds es : List PyData}, DTs H xs ds → DTs H ys es → DTs H (xs ++ ys) (ds ++ es)
  | _, _, [], _, h, a => by cases h; exact a
  | _, _, e :: ds, _, h, a => by
    cases h with
    | cons b r => exact .cons b (DTs.app (ds := ds) r a)
theorem DTs.two {H : Hp} {xs : List V} {ds : List PyData} (r : DTs H xs ds) (h : ds.length = 2) : ∃ x y a b, xs = [x, y] ∧ ds = [a, b] ∧ DT H x a ∧ DT H y b := by
  cases r with
  | nil => simp at h
  | cons ha r =>
    cases r with
    | nil => simp at h
    | cons hb r =>
      cases r with
      | nil => exact ⟨_, _, _, _, rfl, rfl, ha, hb⟩
      | cons _ _ =>
        simp only [List.length_cons] at h
        omega
theorem small1000' {n : Nat} (h : n ≤ 5000) : n < sizeLine := Nat.lt_of_le_of_lt h (by decide)
/-! ### registers, moves -/
def wholeD : PyData → Bool
  | .int _ => true
  | _ => false
def countD : PyData → Bool
  | .int i => decide (0 ≤ i)
  | _ => false
def placeD : PyData → Bool
  | .int i => decide (0 ≤ i) && decide (i < 100)
  | _ => false
def moveD : PyData → Bool
  | .tuple [a, b] => placeD a && placeD b
  | _ => false
theorem moveD_len {ds : List PyData} (h : ds.length ≠ 2) : moveD (.tuple ds) = false := by
  match ds, h with
  | [], _ => rfl
  | [_], _ => rfl
  | [_, _], h => exact absurd rfl h
  | _ :: _ :: _ :: _, _ => rfl
abbrev Pr := Int × Int
def pairD (p : Pr) : PyData := .tuple [.int p.1, .int p.2]
def InP (p : Pr) : Prop := (0 ≤ p.1 ∧ p.1 < 100) ∧ 0 ≤ p.2 ∧ p.2 < 100
theorem placeD_in {i : Int} : placeD (.int i) = true ↔ 0 ≤ i ∧ i < 100 := by simp [placeD]
theorem moveD_pair {p : Pr} (h : InP p) : moveD (pairD p) = true := by
  simp [moveD, pairD, placeD, h.1.1, h.1.2, h.2.1, h.2.2]
theorem moveD_inv {d : PyData} (h : moveD d = true) : ∃ p : Pr, d = pairD p ∧ InP p := by
  match d, h with
  | .tuple [a, b], h =>
    have h2 : placeD a = true ∧ placeD b = true := by simpa [moveD] using h
    match a, b, h2 with
    | .int i, .int j, h2 =>
      exact ⟨(i, j), rfl, placeD_in.mp h2.1, placeD_in.mp h2.2⟩
/-- what may be a shuffle -/
structure Shuf (ps : List Pr) : Prop where
  inp : ∀ p ∈ ps, InP p
  nd : (ps.map (·.1)).Nodup
  few : ps.length ≤ 40
abbrev s_is_whole : Stmt := topS 5
theorem sc_is_whole : FnScope ["value"] ["value"] (defScope s_is_whole) := ⟨rfl, rfl, rfl, by decide +kernel, rfl, by decide +kernel, by decide +kernel⟩
abbrev s_is_count : Stmt := topS 6
theorem sc_is_count : FnScope ["value"] ["value"] (defScope s_is_count) := ⟨rfl, rfl, rfl, by decide +kernel, rfl, by decide +kernel, by decide +kernel⟩
abbrev s_is_place : Stmt := topS 10
theorem sc_is_place : FnScope ["value"] ["value"] (defScope s_is_place) := ⟨rfl, rfl, rfl, by decide +kernel, rfl, by decide +kernel, by decide +kernel⟩
abbrev s_is_move : Stmt := topS 11
theorem sc_is_move : FnScope ["value"] ["value"] (defScope s_is_move) := ⟨rfl, rfl, rfl, by decide +kernel, rfl, by decide +kernel, by decide +kernel⟩
abbrev s_is_shuffle : Stmt := topS 12
theorem sc_is_shuffle : FnScope ["value", "pair"] ["value"] (defScope s_is_shuffle) := ⟨rfl, rfl, rfl, by decide +kernel, rfl, by decide +kernel, by decide +kernel⟩
abbrev s_ask_shuffle : Stmt := topS 13
theorem sc_ask_shuffle : FnScope ["shuffle"] ["shuffle"] (defScope s_ask_shuffle) := ⟨rfl, rfl, rfl, by decide +kernel, rfl, by decide +kernel, by decide +kernel⟩
abbrev s_ask_spare : Stmt := topS 14
theorem sc_ask_spare : FnScope ["shuffle", "spare", "pair"] ["shuffle", "spare"] (defScope s_ask_spare) := ⟨rfl, rfl, rfl, by decide +kernel, rfl, by decide +kernel, by decide +kernel⟩
structure TMov (K : PySem.W.Frag) (mg : Str → Option Value) : Prop where
  d_is_whole : Has K mg "is_whole" s_is_whole ["value"]
  d_is_count : Has K mg "is_count" s_is_count ["value"]
  d_is_place : Has K mg "is_place" s_is_place ["value"]
  d_is_move : Has K mg "is_move" s_is_move ["value"]
  d_is_shuffle : Has K mg "is_shuffle" s_is_shuffle ["value"]
  d_ask_shuffle : Has K mg "ask_shuffle" s_ask_shuffle ["shuffle"]
  d_ask_spare : Has K mg "ask_spare" s_ask_spare ["shuffle", "spare"]
  b_isinstance : mg "isinstance" = none
  b_int : mg "int" = none
  b_bool : mg "bool" = none
  b_tuple : mg "tuple" = none
  b_list : mg "list" = none
  b_dict : mg "dict" = none
  b_len : mg "len" = none
  b_all : mg "all" = none
  b_any : mg "any" = none
  b_range : mg "range" = none
  g_MOST_TUPLES : ∃ t, mg "MOST_TUPLES" = some (.int 40 t)
  g_MOST_NUMBERS : ∃ t, mg "MOST_NUMBERS" = some (.int 100 t)
theorem kit_i : ∀ d : PyData, kitB (tyN d) "int" = some (match d with | .int _ => true | .bool _ => true | _ => false)
  | .none => by show kitB "NoneType" "int" = some false; decide +kernel
  | .bool _ => by show kitB "bool" "int" = some true; decide +kernel
  | .int _ => by show kitB "int" "int" = some true; decide +kernel
  | .str _ => by show kitB "str" "int" = some false; decide +kernel
  | .list _ => by show kitB "list" "int" = some false; decide +kernel
  | .tuple _ => by show kitB "tuple" "int" = some false; decide +kernel
  | .dict _ => by show kitB "dict" "int" = some false; decide +kernel
theorem kit_b : ∀ d : PyData, kitB (tyN d) "bool" = some (match d with | .bool _ => true | _ => false)
  | .none => by show kitB "NoneType" "bool" = some false; decide +kernel
  | .bool _ => by show kitB "bool" "bool" = some true; decide +kernel
  | .int _ => by show kitB "int" "bool" = some false; decide +kernel
  | .str _ => by show kitB "str" "bool" = some false; decide +kernel
  | .list _ => by show kitB "list" "bool" = some false; decide +kernel
  | .tuple _ => by show kitB "tuple" "bool" = some false; decide +kernel
  | .dict _ => by show kitB "dict" "bool" = some false; decide +kernel
section
variable {P : Program} {w : World} {K : PySem.W.Frag} {mg : Str → Option Value} {base : Heap}
/-- any data -/
def sp_any (f : PyData → Bool) : Sp := fun vs H Q _ => ∃ (v : V) (d : PyData), vs = [v] ∧ DT H v d ∧ Q (.bl (f d)) H
theorem c_is_whole (T : TMov K mg) : Says P w K mg base 1 "is_whole" ["value"] (sp_any wholeD) := by
  refine says T.d_is_whole sc_is_whole (fun vs H Q E h => ?_) (fun f cdv A outer s H vs Q E hr h => ?_)
  · obtain ⟨_, _, rfl, _⟩ := h; rfl
  · refine ⟨_, (pss_one (ps_ret (pe_and (pe_callB call_isi (by rfl) T.b_isinstance (by decide +kernel) (pa_cons (pv 0) (pa_cons (pe_bltn (v := .ty "int") (by rfl) T.b_int (by decide +kernel) rfl) pa_nil))) (pe_one (pe_not (pe_callB call_isi (by rfl) T.b_isinstance (by decide +kernel) (pa_cons (pv 0) (pa_cons (pe_bltn (v := .ty "bool") (by rfl) T.b_bool (by decide +kernel) rfl) pa_nil)))))))), ?_⟩
    obtain ⟨v, d, rfl, hd, q⟩ := h
    refine ⟨_, rfl, _, _, _, _, _, rfl, .ty _, hd.ty, kit_ty (kit_i d), _, rfl, ?_⟩
    cases d with
    | int i => exact iteT ⟨_, rfl, _, _, _, _, _, rfl, .ty _, hd.ty, kit_ty (kit_b _), _, rfl, q⟩
    | bool b => exact iteT ⟨_, rfl, _, _, _, _, _, rfl, .ty _, hd.ty, kit_ty (kit_b _), _, rfl, q⟩
    | none => exact iteF q
    | str z => exact iteF q
    | list ds => exact iteF q
    | tuple ds => exact iteF q
    | dict ds => exact iteF q
theorem c_is_count (T : TMov K mg) : Says P w K mg base 2 "is_count" ["value"] (sp_any countD) := by
  refine says T.d_is_count sc_is_count (fun vs H Q E h => ?_) (fun f cdv A outer s H vs Q E hr h => ?_)
  · obtain ⟨_, _, rfl, _⟩ := h; rfl
  · refine ⟨_, (pss_one (ps_ret (pe_and (pe_s (c_is_whole T) hr (pa_cons (pv 0) pa_nil)) (pe_one (pe_cmpR op_ge (pv 0) pe_int (nomark _)))))), ?_⟩
    obtain ⟨v, d, rfl, hd, q⟩ := h
    refine ⟨_, rfl, v, d, rfl, hd, _, rfl, ?_⟩
    cases d with
    | int i =>
      cases hd
      exact iteT ⟨_, rfl, _, _, rfl, rfl, q⟩
    | bool b => exact iteF q
    | none => exact iteF q
    | str z => exact iteF q
    | list ds => exact iteF q
    | tuple ds => exact iteF q
    | dict ds => exact iteF q
theorem c_is_place (T : TMov K mg) : Says P w K mg base 3 "is_place" ["value"] (sp_any placeD) := by
  obtain ⟨tm, gm⟩ := T.g_MOST_NUMBERS
  refine says T.d_is_place sc_is_place (fun vs H Q E h => ?_) (fun f cdv A outer s H vs Q E hr h => ?_)
  · obtain ⟨_, _, rfl, _⟩ := h; rfl
  · refine ⟨_, (pss_one (ps_ret (pe_and (pe_s (c_is_count T) hr (pa_cons (pv 0) pa_nil)) (pe_one (pe_cmpR op_lt (pv 0) (pe_glob (v := .int 100) rfl gm ⟨_, rfl⟩) (nomark _)))))), ?_⟩
    obtain ⟨v, d, rfl, hd, q⟩ := h
    refine ⟨_, rfl, v, d, rfl, hd, _, rfl, ?_⟩
    cases d with
    | int i =>
      cases hd
      have q : Q (.bl (decide (0 ≤ i) && decide (i < 100))) H := q
      show if decide (0 ≤ i) = true then _ else _
      by_cases h : 0 ≤ i
      · rw [decide_eq_true h] at q ⊢
        exact iteT ⟨_, rfl, _, _, rfl, rfl, q⟩
      · rw [decide_eq_false h] at q ⊢
        exact iteF q
    | bool b => exact iteF q
    | none => exact iteF q
    | str z => exact iteF q
    | list ds => exact iteF q
    | tuple ds => exact iteF q
    | dict ds => exact iteF q
theorem c_is_move (T : TMov K mg) : Says P w K mg base 4 "is_move" ["value"] (sp_any moveD) := by
  refine says T.d_is_move sc_is_move (fun vs H Q E h => ?_) (fun f cdv A outer s H vs Q E hr h => ?_)
  · obtain ⟨_, _, rfl, _⟩ := h; rfl
  refine ⟨_, (pss_cons (ps_if (PW.pt (pw_or (pt_not (pt_val (pe_callB call_isi (by rfl) T.b_isinstance (by decide +kernel) (pa_cons (pv 0) (pa_cons (pe_bltn (v := .ty "tuple") (by rfl) T.b_tuple (by decide +kernel) rfl) pa_nil))))) (pw_or1 (pt_cmpR op_ne (pe_callB call_len_seq (by rfl) T.b_len (by decide +kernel) (pa_cons (pv 0) pa_nil)) pe_int (nomark _)))))
        (pss_one (ps_ret pe_bl))
        pss_nil)
    (pss_one (ps_ret (pe_and (pe_s (c_is_place T) hr (pa_cons (pe_ix ix_tup (pv 0) pe_int (fun _ _ => rfl)) pa_nil)) (pe_one (pe_s (c_is_place T) hr (pa_cons (pe_ix ix_tup (pv 0) pe_int (fun _ _ => rfl)) pa_nil))))))), ?_⟩
  obtain ⟨v, d, rfl, hd, q⟩ := h
  refine ⟨_, rfl, _, _, _, _, _, rfl, .ty _, hd.ty, kit_ty (kit_t d), _, rfl, ?_⟩
  cases d with
  | tuple ds =>
    cases hd with
    | @tup p xs _ e r =>
      have lx := r.length
      refine iteF ?_
      refine ⟨_, rfl, p, xs, rfl, .inr (SqT.of e), rfl, _, rfl, ifNeI (fun h => ?_) (fun h => ?_)⟩
      · rw [moveD_len (ds := ds) (by omega)] at q
        exact q
      · obtain ⟨x, y, a, b, rfl, rfl, ha, hb⟩ := r.two (by omega)
        have q2 : Q (.bl (placeD a && placeD b)) H := q
        refine ⟨_, rfl, p, _, _, x, rfl, rfl, SqT.of e, rfl, x, a, rfl, ha, _, rfl, ?_⟩
        cases h1 : placeD a with
        | false =>
          rw [h1] at q2
          exact iteF q2
        | true =>
          rw [h1] at q2
          exact iteT ⟨_, rfl, p, _, _, y, rfl, rfl, SqT.of e, rfl, y, b, rfl, hb, q2⟩
  | _ => exact iteT q
end
end Cb
set_option Elab.async false
set_option linter.all false
set_option maxRecDepth 100000
set_option maxHeartbeats 4000000
namespace Cb
open PySem PySem.Spec PyProof.Rows L2
/-! ### pairs laid out -/
def kvP (p : Pr) : Key × V := (Sum.inl p.1, .int p.2)
theorem pairs_addr {K : PySem.W.Frag} {H : Hp} : ∀ {ps : List Pr} {vs : List V}, DTs H vs (ps.map pairD) → ∃ as : List Addr, vs = as.map V.ref ∧ as.length = ps.length ∧ Paired (fun p kv => SqT K H p [kV kv.1, kv.2]) as (ps.map kvP)
  | [], _, h => by
    cases h
    exact ⟨[], rfl, rfl, .nil⟩
  | p :: ps, _, h => by
    cases h with
    | cons a r =>
      obtain ⟨as, rfl, l, q⟩ := pairs_addr (K := K) (ps := ps) r
      cases a with
      | tup e r2 =>
        cases r2 with
        | cons b r2 =>
          cases b
          cases r2 with
          | cons c r2 =>
            cases c
            cases r2
            exact ⟨_ :: as, rfl, by simp [l], .cons (SqT.of e) q⟩
theorem pair_at {H : Hp} {ps : List Pr} {vs : List V} {i : Nat} {x : V} (d : DTs H vs (ps.map pairD)) (hx : vs[i]? = some x) : ∃ (p : Pr) (t : Addr), ps[i]? = some p ∧ x = .ref t ∧ H t = some (.tup [.int p.1, .int p.2]) := by
  have l := d.length
  rw [List.length_map] at l
  have hi : i < ps.length := by
    have := (List.getElem?_eq_some_iff.mp hx).1
    omega
  have a := d.get hx (show (ps.map pairD)[i]? = some (pairD ps[i]) by rw [List.getElem?_map, List.getElem?_eq_getElem hi]; rfl)
  cases a with
  | tup e r2 =>
    cases r2 with
    | cons b r2 =>
      cases b
      cases r2 with
      | cons c r2 =>
        cases c
        cases r2
        exact ⟨_, _, List.getElem?_eq_getElem hi, rfl, e⟩
theorem putK_new {kvs : List (Key × V)} {k : Key} {v : V} (h : k ∉ kvs.map (·.1)) : putK kvs k v = kvs ++ [(k, v)] := by
  unfold putK
  rw [if_neg]
  intro z
  obtain ⟨kv, hm, e⟩ := List.any_eq_true.mp z
  exact h (List.mem_map.mpr ⟨kv, hm, of_decide_eq_true e⟩)
theorem mergeK_nd : ∀ (kvs acc : List (Key × V)), ((acc ++ kvs).map (·.1)).Nodup → mergeK acc kvs = acc ++ kvs
  | [], acc, _ => by
    rw [List.append_nil]
    rfl
  | kv :: kvs, acc, h => by
    show mergeK (putK acc kv.1 kv.2) kvs = _
    have n : kv.1 ∉ acc.map (·.1) := by
      intro z
      rw [List.map_append, List.map_cons, List.nodup_append] at h
      exact h.2.2 _ z _ (List.mem_cons_self ..) rfl
    rw [putK_new n, mergeK_nd kvs _ (by rw [List.append_assoc]; exact h), List.append_assoc]
    rfl
theorem kvP_nd {ps : List Pr} (h : (ps.map (·.1)).Nodup) : ((ps.map kvP).map (·.1)).Nodup := by
  have e : (ps.map kvP).map (·.1) = (ps.map (·.1)).map (Sum.inl (β := Str)) := by
    rw [List.map_map, List.map_map]
    rfl
  rw [e]
  exact List.Pairwise.map _ (fun a b (ne : a ≠ b) z => ne (Sum.inl.inj z)) h
theorem dict_of {ps : List Pr} (h : (ps.map (·.1)).Nodup) : mergeK [] (ps.map kvP) = ps.map kvP := by
  rw [mergeK_nd _ [] (by simpa using kvP_nd h)]
  rfl
/-! ### what a register holds -/
def upF (f : Int → Int) (a b : Int) : Int → Int := fun x => if x = a then b else f x
def walkF (row : List Pr) (f : Int → Int) : Int → Int := row.foldl (fun f p => upF f p.1 (f p.2)) f
def toldF (ps : List Pr) (x : Int) : Int := ((ps.find? fun p => decide (p.1 = x)).map (·.2)).getD x
def cellsF (f : Int → Int) : List V := (List.range 100).map fun i => .int (f ((i : Nat) : Int))
theorem cells_len (f : Int → Int) : (cellsF f).length = 100 := by simp [cellsF]
theorem cells_at (f : Int → Int) {i : Int} (h : 0 ≤ i) (h2 : i < 100) : atI (cellsF f) i = some (.int (f i)) := by
  have e : ((i.toNat : Nat) : Int) = i := Int.toNat_of_nonneg h
  have := atI_nat (xs := cellsF f) (j := i.toNat) (v := .int (f i)) (by
    unfold cellsF
    rw [List.getElem?_map, List.getElem?_range (by omega)]
    show some (V.int (f ((i.toNat : Nat) : Int))) = _
    rw [e])
  rwa [e] at this
theorem cells_ix {i : Int} (f : Int → Int) (h : 0 ≤ i) (h2 : i < 100) : ixN (cellsF f).length i = some i.toNat := by
  rw [cells_len]
  unfold ixN
  rw [if_pos h, if_pos (by omega)]
theorem cells_set (f : Int → Int) {a : Int} (b : Int) (h : 0 ≤ a) (h2 : a < 100) : (cellsF f).set a.toNat (.int b) = cellsF (upF f a b) := by
  refine List.ext_getElem? fun j => ?_
  by_cases hj : j < 100
  · rw [List.getElem?_set]
    unfold cellsF
    rw [List.getElem?_map, List.getElem?_map, List.getElem?_range hj]
    by_cases e : a.toNat = j
    · rw [if_pos e, if_pos (by simp; omega)]
      show _ = some (V.int (upF f a b j))
      rw [upF, if_pos (by omega)]
    · rw [if_neg e]
      show some (V.int (f j)) = some (V.int (upF f a b j))
      rw [upF, if_neg (by omega)]
  · rw [List.getElem?_eq_none (by rw [List.length_set, cells_len]; omega), List.getElem?_eq_none (by rw [cells_len]; omega)]
theorem rg_cells : rgV 0 100 = cellsF (fun x => x) := by
  unfold rgV cellsF
  refine List.map_congr_left fun i _ => ?_
  show V.int (0 + (i : Int)) = _
  rw [Int.zero_add]
theorem walk_take {row : List Pr} {f : Int → Int} {i : Nat} {p : Pr} (h : row[i]? = some p) : walkF (row.take (i + 1)) f = upF (walkF (row.take i) f) p.1 (walkF (row.take i) f p.2) := by
  rw [List.take_add_one, h]
  unfold walkF
  rw [List.foldl_append]
  rfl
theorem told_val (ps : List Pr) (x : Int) : (valV (ps.map kvP) (Sum.inl x)).getD (.int x) = .int (toldF ps x) := by
  unfold toldF
  induction ps with
  | nil => rfl
  | cons p ps ih =>
    by_cases e : p.1 = x
    · rw [List.map_cons, valV_pos (show (kvP p).1 = Sum.inl x from congrArg Sum.inl e), List.find?_cons]
      simp [e]
      rfl
    · rw [List.map_cons, valV_neg (show ¬ (kvP p).1 = Sum.inl x from fun z => e (Sum.inl.inj z)), List.find?_cons]
      simp only [e, decide_false]
      exact ih
/-- a row does a shuffle -/
def doneB (ps : List Pr) (s : Int) (row : List Pr) : Bool := ((List.range 100).filter fun i => !decide (((i : Nat) : Int) = s)).all fun i => decide (walkF row (fun x => x) (i : Nat) = toldF ps (i : Nat))
def unP : PyData → Pr
  | .tuple [.int a, .int b] => (a, b)
  | _ => (0, 0)
def movesD (ps : List Pr) (s : Int) : PyData → Bool
  | .list ds => ds.all moveD && doneB ps s (ds.map unP)
  | _ => false
theorem unP_all : ∀ {ds : List PyData}, ds.all moveD = true → ds = (ds.map unP).map pairD ∧ ∀ p ∈ ds.map unP, InP p
  | [], _ => ⟨rfl, fun p hp => by cases hp⟩
  | d :: ds, h => by
    have h2 : moveD d = true ∧ ds.all moveD = true := by simpa using h
    obtain ⟨p, rfl, ip⟩ := moveD_inv h2.1
    obtain ⟨e, all⟩ := unP_all h2.2
    refine ⟨?_, fun q hq => ?_⟩
    · rw [List.map_cons, List.map_cons, ← e]
      rfl
    · rcases List.mem_cons.mp hq with rfl | hq
      · exact ip
      · exact all q hq
theorem movesD_pairs {ps row : List Pr} {s : Int} (h : ∀ p ∈ row, InP p) : movesD ps s (.list (row.map pairD)) = doneB ps s row := by
  have e : (row.map pairD).all moveD = true := by
    rw [List.all_eq_true]
    intro d hd
    obtain ⟨p, hp, rfl⟩ := List.mem_map.mp hd
    exact moveD_pair (h p hp)
  have e2 : (row.map pairD).map unP = row := by
    rw [List.map_map]
    exact List.map_id'' (fun _ => rfl) _
  show ((row.map pairD).all moveD && doneB ps s ((row.map pairD).map unP)) = _
  rw [e, e2, Bool.true_and]
/-- a spare register that doesn't stand in a shuffle -/
def Free (ps : List Pr) (s : Int) : Prop := (0 ≤ s ∧ s < 100) ∧ ∀ p ∈ ps, ¬ p.1 = s ∧ ¬ p.2 = s
section
variable {P : Program} {w : World} {K : PySem.W.Frag} {mg : Str → Option Value} {base : Heap}
def sp_shuffle (r : V) : Sp := fun vs H Q _ => ∃ (v : V) (ps : List Pr), vs = [v] ∧ DT H v (.list (ps.map pairD)) ∧ Shuf ps ∧ ∀ H', Same H H' → Q r H'
theorem c_is_shuffle (T : TMov K mg) : Says P w K mg base 5 "is_shuffle" ["value"] (sp_shuffle (.bl true)) := by
  obtain ⟨tm, gm⟩ := T.g_MOST_TUPLES
  refine says T.d_is_shuffle sc_is_shuffle (fun vs H Q E h => ?_) (fun f cdv A outer s H vs Q E hr h => ?_)
  · obtain ⟨_, _, rfl, _⟩ := h; rfl
  refine ⟨_, (pss_cons (ps_if (PW.pt (pw_or (pt_not (pt_val (pe_callB call_isi (by rfl) T.b_isinstance (by decide +kernel) (pa_cons (pv 0) (pa_cons (pe_bltn (v := .ty "list") (by rfl) T.b_list (by decide +kernel) rfl) pa_nil))))) (pw_or1 (pt_cmpR op_gt (pe_callB call_len_seq (by rfl) T.b_len (by decide +kernel) (pa_cons (pv 0) pa_nil)) (pe_glob (v := .int 40) rfl gm ⟨_, rfl⟩) (nomark _)))))
        (pss_one (ps_ret pe_bl))
        pss_nil)
    (pss_one (ps_ret (pe_and (pe_callB (cr_all rfl) (by rfl) T.b_all (by decide +kernel) (pa_cons (pe_lc (own := [("pair", 1)]) (g := gName 1) (tt := tYes) rfl sc_is_shuffle.nd (pi_list (pv 0)) (blkOk_by (N := ["value", "pair"]) (sc := defScope s_is_shuffle) (own := [("pair", 1)]) (by decide +kernel)) (fun _ _ _ _ _ => pg_name (i := 1) sc_is_shuffle.nd rfl (Or.inl rfl)) (fun _ _ _ _ _ => pts_nil) (fun _ _ _ _ _ => (pe_s (c_is_move T) hr (pa_cons (pv 1) pa_nil)))) pa_nil)) (pe_one (pe_cmpR op_eq (pe_callB call_lenD (by rfl) T.b_len (by decide +kernel) (pa_cons (pe_callTy (call_dictP rfl) (by rfl) T.b_dict (by decide +kernel) (pa_cons (pv 0) pa_nil)) pa_nil)) (pe_callB call_len_seq (by rfl) T.b_len (by decide +kernel) (pa_cons (pv 0) pa_nil)) (nomark _))))))), ?_⟩
  obtain ⟨v, ps, rfl, hd, S, q⟩ := h
  refine ⟨_, rfl, _, _, _, _, _, rfl, .ty _, hd.ty, kit_ty (kit_l _), _, rfl, ?_⟩
  cases hd with
  | @lst p xs _ e r =>
    have lx := r.length
    rw [List.length_map] at lx
    have few := S.few
    refine iteF ?_
    refine ⟨_, rfl, p, xs, rfl, .inl (SqL.of e), _, _, rfl, rfl, _, rfl, ?_⟩
    refine ite2 (fun z => absurd (of_decide_eq_true z) (by omega)) (fun _ => ?_)
    refine ⟨_, rfl, _, rfl, ⟨_, SqL.of e⟩, fun D hD => lc_mapW (walk_list (K := K) (a := p) (xs := xs)) (ys := ps.map fun p => V.bl true) (fun H' s' => SqL.of (s' _ _ e)) (fun j H x H' y => y.1) hD (by rw [List.length_map, lx]) (by omega) ?_ ?_⟩
    · rintro j x y H' Q' s1 ⟨_, hx⟩ hy q'
      obtain ⟨pr, t, hp, rfl, ht⟩ := pair_at r hx
      rw [List.getElem?_map, hp] at hy
      obtain rfl : V.bl true = y := Option.some.inj hy
      refine ⟨.ref t, rfl, .ref t, pairD pr, rfl, .tup (s1 _ _ ht) (.cons (.int _) (.cons (.int _) .nil)), ?_⟩
      rw [moveD_pair (S.inp _ (List.mem_of_getElem? hp))]
      exact q' _ (Same.refl _)
    · intro H' s1 hd2
      refine ⟨_, ps.map fun _ => true, rfl, ?_, _, rfl, ?_⟩
      · rw [List.map_map]
        exact SqL.of hd2
      · rw [show (ps.map fun _ => true).all id = true by simp]
        refine iteT ?_
        have r1 := r.same s1 _
        obtain ⟨as, rfl, la, pp⟩ := pairs_addr (K := K) r1
        refine ⟨_, rfl, p, as, _, rfl, SqL.of (s1 _ _ e), pp, fun dd ndd => ?_⟩
        rw [dict_of S.nd]
        refine ⟨dd, _, rfl, upd_same, _, rfl, p, _, rfl, .inl (SqL.of (same_new ndd _ _ (s1 _ _ e))), rfl, ?_⟩
        have e2 : (V.int ((ps.map kvP).length : Nat)) = V.int ((as.map V.ref).length : Nat) := by
          rw [List.length_map, List.length_map, la]
        rw [e2, decide_eq_true rfl]
        exact q _ (s1.trans (same_new ndd))
theorem c_ask_shuffle (T : TMov K mg) : Says P w K mg base 6 "ask_shuffle" ["shuffle"] (sp_shuffle .non) := by
  refine says T.d_ask_shuffle sc_ask_shuffle (fun vs H Q E h => ?_) (fun f cdv A outer s H vs Q E hr h => ?_)
  · obtain ⟨_, _, rfl, _⟩ := h; rfl
  refine ⟨_, (pss_one (ps_if (pt_not (pt_val (pe_s (c_is_shuffle T) hr (pa_cons (pv 0) pa_nil))))
        (pss_one ps_never)
        pss_nil)), ?_⟩
  obtain ⟨v, ps, rfl, hd, S, q⟩ := h
  exact ⟨_, rfl, v, ps, rfl, hd, S, fun H' s' => ⟨_, rfl, iteF (q H' s')⟩⟩
def sp_spare : Sp := fun vs H Q _ => ∃ (v : V) (ps : List Pr) (s : Int), vs = [v, .int s] ∧ DT H v (.list (ps.map pairD)) ∧ Shuf ps ∧ Free ps s ∧ ∀ H', Same H H' → Q .non H'
theorem c_ask_spare (T : TMov K mg) : Says P w K mg base 4 "ask_spare" ["shuffle", "spare"] sp_spare := by
  refine says T.d_ask_spare sc_ask_spare (fun vs H Q E h => ?_) (fun f cdv A outer s H vs Q E hr h => ?_)
  · obtain ⟨_, _, _, rfl, _⟩ := h; rfl
  refine ⟨_, (pss_one (ps_if (PW.pt (pw_or (pt_not (pt_val (pe_s (c_is_place T) hr (pa_cons (pv 1) pa_nil)))) (pw_or1 (pt_val (pe_callB (cr_any rfl) (by rfl) T.b_any (by decide +kernel) (pa_cons (pe_lc (own := [("pair", 2)]) (g := gName 2) (tt := tYes) rfl sc_ask_spare.nd (pi_list (pv 0)) (blkOk_by (N := ["shuffle", "spare", "pair"]) (sc := defScope s_ask_spare) (own := [("pair", 2)]) (by decide +kernel)) (fun _ _ _ _ _ => pg_name (i := 2) sc_ask_spare.nd rfl (Or.inl rfl)) (fun _ _ _ _ _ => pts_nil) (fun _ _ _ _ _ => (pe_cmpR (r := rIn K false) op_in_seq (pv 1) (pv 2) (by rfl)))) pa_nil))))))
        (pss_one ps_never)
        pss_nil)), ?_⟩
  obtain ⟨v, ps, sp, rfl, hd, S, F, q⟩ := h
  refine ⟨_, rfl, _, .int sp, rfl, .int _, _, rfl, ?_⟩
  rw [show placeD (.int sp) = true from placeD_in.mpr F.1]
  refine iteF ?_
  cases hd with
  | @lst p xs _ e r =>
    have lx := r.length
    rw [List.length_map] at lx
    have few := S.few
    refine ⟨_, rfl, _, rfl, ⟨_, SqL.of e⟩, fun D hD => lc_mapW (walk_list (K := K) (a := p) (xs := xs)) (ys := ps.map fun p => V.bl false) (fun H' s' => SqL.of (s' _ _ e)) (fun j H x H' y => y.1) hD (by rw [List.length_map, lx]) (by omega) ?_ ?_⟩
    · rintro j x y H' Q' s1 ⟨_, hx⟩ hy q'
      obtain ⟨pr, t, hp, rfl, ht⟩ := pair_at r hx
      rw [List.getElem?_map, hp] at hy
      obtain rfl : V.bl false = y := Option.some.inj hy
      refine ⟨_, rfl, _, rfl, t, _, rfl, .inr (SqT.of (s1 _ _ ht)), rfl, rfl, ?_⟩
      have f := F.2 _ (List.mem_of_getElem? hp)
      have e0 : inV (V.int sp) [V.int pr.1, V.int pr.2] = false := by
        simp [inV, eqV, f.1, f.2]
      show Q' (.bl (inV (V.int sp) [V.int pr.1, V.int pr.2])) H'
      rw [e0]
      exact q' _ (Same.refl _)
    · intro H' s1 hd2
      refine ⟨_, ps.map fun _ => false, rfl, ?_, _, rfl, ?_⟩
      · rw [List.map_map]
        exact SqL.of hd2
      · rw [show (ps.map fun _ => false).any id = false by simp]
        exact iteF (q _ s1)
end
end Cb
set_option Elab.async false
set_option linter.all false
set_option maxRecDepth 100000
set_option maxHeartbeats 4000000
namespace Cb
open PySem PySem.Spec PyProof.Rows L2
/-! ### the rule of moves, as a pure thing -/
def isFree (l : List Pr) (q : Pr) : Bool := !decide (q.1 ∈ l.map (·.2))
def reAt (l : List Pr) (o n : Int) : List Pr := l.map fun q => (q.1, if q.2 = o then n else q.2)
def off (l : List Pr) (a : Int) : List Pr := l.filter fun p => !decide (p.1 = a)
def stepM (s : Int) (l : List Pr) : Pr × List Pr := match l.find? (isFree l) with
  | some q => (q, reAt (off l q.1) q.2 q.1)
  | none => match l with
    | [] => ((s, s), [])
    | p :: _ => ((s, p.1), reAt l p.1 s)
structure Lf (s : Int) (l : List Pr) : Prop where
  nd : (l.map (·.1)).Nodup
  un : ∀ q ∈ l, q.1 ≠ q.2
  sp : s ∉ l.map (·.1)
theorem reAt_fst (l : List Pr) (o n : Int) : (reAt l o n).map (·.1) = l.map (·.1) := by
  unfold reAt
  rw [List.map_map]
  rfl
theorem mem_reAt {l : List Pr} {o n : Int} {q : Pr} (h : q ∈ reAt l o n) : ∃ p ∈ l, q.1 = p.1 ∧ q.2 = if p.2 = o then n else p.2 := by
  obtain ⟨p, hp, rfl⟩ := List.mem_map.mp h
  exact ⟨p, hp, rfl, rfl⟩
theorem mem_off {l : List Pr} {a : Int} {q : Pr} : q ∈ off l a ↔ q ∈ l ∧ q.1 ≠ a := by
  unfold off
  rw [List.mem_filter]
  simp
theorem free_some {l : List Pr} {q : Pr} (h : l.find? (isFree l) = some q) : q ∈ l ∧ q.1 ∉ l.map (·.2) := by
  have h1 := List.mem_of_find?_eq_some h
  have h2 := List.find?_some h
  unfold isFree at h2
  exact ⟨h1, by simpa using h2⟩
theorem free_none {l : List Pr} (h : l.find? (isFree l) = none) : ∀ q ∈ l, q.1 ∈ l.map (·.2) := by
  intro q hq
  have := List.find?_eq_none.mp h q hq
  unfold isFree at this
  simpa using this
/-- all firsts read: the seconds are the firsts in some order -/
theorem all_read {s : Int} {l : List Pr} (L : Lf s l) (h : ∀ q ∈ l, q.1 ∈ l.map (·.2)) : (l.map (·.2)).Perm (l.map (·.1)) := by
  have hs : ∀ x ∈ l.map (·.1), x ∈ l.map (·.2) := fun x hx => by
    obtain ⟨q, hq, rfl⟩ := List.mem_map.mp hx
    exact h q hq
  have sub : ∀ {F L : List Int}, F.Nodup → (∀ x ∈ F, x ∈ L) → ∃ R, L.Perm (F ++ R) := by
    intro F
    induction F with
    | nil => exact fun _ _ => ⟨_, List.Perm.refl _⟩
    | cons a F ih =>
      intro L n s
      have n2 := List.nodup_cons.mp n
      have p := List.perm_cons_erase (s a (List.mem_cons_self ..))
      obtain ⟨R, r⟩ := ih (L := L.erase a) n2.2 fun x hx => (List.mem_erase_of_ne fun (e : x = a) => n2.1 (e ▸ hx)).mpr (s x (List.mem_cons_of_mem _ hx))
      exact ⟨R, p.trans (r.cons a)⟩
  obtain ⟨R, p⟩ := sub L.nd hs
  have := p.length_eq
  rw [List.length_append, List.length_map, List.length_map] at this
  obtain rfl : R = [] := List.eq_nil_of_length_eq_zero (by omega)
  rwa [List.append_nil] at p
theorem Lf.free {s : Int} {l : List Pr} (L : Lf s l) {q : Pr} (h : l.find? (isFree l) = some q) : Lf s (reAt (off l q.1) q.2 q.1) := by
  obtain ⟨hq, hr⟩ := free_some h
  refine ⟨?_, ?_, ?_⟩
  · rw [reAt_fst]
    exact L.nd.sublist (List.Sublist.map _ List.filter_sublist)
  · intro x hx
    obtain ⟨p, hp, e1, e2⟩ := mem_reAt hx
    obtain ⟨hp, ne⟩ := mem_off.mp hp
    rw [e1, e2]
    by_cases e : p.2 = q.2
    · rw [if_pos e]
      exact ne
    · rw [if_neg e]
      exact L.un p hp
  · rw [reAt_fst]
    intro z
    obtain ⟨p, hp, e⟩ := List.mem_map.mp z
    exact L.sp (List.mem_map.mpr ⟨p, (mem_off.mp hp).1, e⟩)
theorem Lf.spare {s : Int} {p : Pr} {l : List Pr} (L : Lf s (p :: l)) (h : (p :: l).find? (isFree (p :: l)) = none) : s ∉ (p :: l).map (·.2) ∧ Lf s (reAt (p :: l) p.1 s) ∧ ∃ q, (reAt (p :: l) p.1 s).find? (isFree (reAt (p :: l) p.1 s)) = some q := by
  have pm := all_read L (free_none h)
  have ns : s ∉ (p :: l).map (·.2) := fun z => L.sp (pm.mem_iff.mp z)
  have nd2 : ((p :: l).map (·.2)).Nodup := pm.nodup_iff.mpr L.nd
  refine ⟨ns, ⟨?_, ?_, ?_⟩, ?_⟩
  · rw [reAt_fst]
    exact L.nd
  · intro x hx
    obtain ⟨y, hy, e1, e2⟩ := mem_reAt hx
    rw [e1, e2]
    by_cases e : y.2 = p.1
    · rw [if_pos e]
      exact fun z => L.sp (List.mem_map.mpr ⟨y, hy, z⟩)
    · rw [if_neg e]
      exact L.un y hy
  · rw [reAt_fst]
    exact L.sp
  · cases hf : (reAt (p :: l) p.1 s).find? (isFree (reAt (p :: l) p.1 s)) with
    | some q => exact ⟨q, rfl⟩
    | none =>
      exfalso
      have hp0 : (p.1, if p.2 = p.1 then s else p.2) ∈ reAt (p :: l) p.1 s := List.mem_map.mpr ⟨p, List.mem_cons_self .., rfl⟩
      have hm := free_none hf _ hp0
      obtain ⟨x, hx, e⟩ := List.mem_map.mp hm
      obtain ⟨y, hy, e1, e2⟩ := mem_reAt hx
      have e : x.2 = p.1 := e
      rw [e2] at e
      by_cases z : y.2 = p.1
      · rw [if_pos z] at e
        exact L.sp (List.mem_map.mpr ⟨p, List.mem_cons_self .., e.symm⟩)
      · rw [if_neg z] at e
        exact z e
/-! ### what the registers hold -/
def mv (h : Int → Int) (m : Pr) : Int → Int := fun r => if r = m.1 then h m.2 else h r
structure Hd (s : Int) (W : Int → Int) (l : List Pr) (h : Int → Int) : Prop where
  due : ∀ q ∈ l, h q.2 = W q.1
  done : ∀ r, r ≠ s → r ∉ l.map (·.1) → h r = W r
theorem same_pair {l : List Pr} (nd : (l.map (·.1)).Nodup) {p q : Pr} (hp : p ∈ l) (hq : q ∈ l) (e : p.1 = q.1) : p = q := by
  induction l with
  | nil => cases hp
  | cons x l ih =>
    have n2 := List.nodup_cons.mp nd
    rcases List.mem_cons.mp hp with h1 | h1 <;> rcases List.mem_cons.mp hq with h2 | h2
    · rw [h1, h2]
    · subst h1
      exact absurd (List.mem_map.mpr ⟨q, h2, e.symm⟩) n2.1
    · subst h2
      exact absurd (List.mem_map.mpr ⟨p, h1, e⟩) n2.1
    · exact ih n2.2 h1 h2
theorem Hd.free {s : Int} {W h : Int → Int} {l : List Pr} (L : Lf s l) (H : Hd s W l h) {q : Pr} (e : l.find? (isFree l) = some q) : Hd s W (reAt (off l q.1) q.2 q.1) (mv h q) := by
  obtain ⟨hq, nr⟩ := free_some e
  refine ⟨?_, ?_⟩
  · intro x hx
    obtain ⟨p, hp, e1, e2⟩ := mem_reAt hx
    obtain ⟨hp, ne⟩ := mem_off.mp hp
    rw [e1, e2]
    unfold mv
    by_cases z : p.2 = q.2
    · rw [if_pos z, if_pos rfl, ← z]
      exact H.due p hp
    · have : p.2 ≠ q.1 := fun y => nr (List.mem_map.mpr ⟨p, hp, y⟩)
      rw [if_neg z, if_neg this]
      exact H.due p hp
  · intro r hr hn
    rw [reAt_fst] at hn
    unfold mv
    by_cases z : r = q.1
    · rw [if_pos z, z]
      exact H.due q hq
    · rw [if_neg z]
      refine H.done r hr fun m => hn ?_
      obtain ⟨p, hp, rfl⟩ := List.mem_map.mp m
      exact List.mem_map.mpr ⟨p, mem_off.mpr ⟨hp, z⟩, rfl⟩
theorem Hd.spare {s : Int} {W h : Int → Int} {p : Pr} {l : List Pr} (L : Lf s (p :: l)) (H : Hd s W (p :: l) h) (e : (p :: l).find? (isFree (p :: l)) = none) : Hd s W (reAt (p :: l) p.1 s) (mv h (s, p.1)) := by
  obtain ⟨ns, _, _⟩ := L.spare e
  refine ⟨?_, ?_⟩
  · intro x hx
    obtain ⟨y, hy, e1, e2⟩ := mem_reAt hx
    rw [e1, e2]
    unfold mv
    by_cases z : y.2 = p.1
    · rw [if_pos z, if_pos rfl, ← z]
      exact H.due y hy
    · have : y.2 ≠ s := fun w => ns (List.mem_map.mpr ⟨y, hy, w⟩)
      rw [if_neg z, if_neg this]
      exact H.due y hy
  · intro r hr hn
    rw [reAt_fst] at hn
    unfold mv
    rw [if_neg hr]
    exact H.done r hr hn
/-- the rule, for as many moves -/
def runM (s : Int) : Nat → List Pr → List Pr × List Pr
  | 0, l => ([], l)
  | _ + 1, [] => ([], [])
  | n + 1, p :: l => ((stepM s (p :: l)).1 :: (runM s n (stepM s (p :: l)).2).1, (runM s n (stepM s (p :: l)).2).2)
def able (l : List Pr) : Nat := match l.find? (isFree l) with
  | some _ => 0
  | none => 1
def left (l : List Pr) : Nat := 2 * l.length + able l
theorem able_le (l : List Pr) : able l ≤ 1 := by
  unfold able
  split <;> omega
theorem off_len {l : List Pr} {q : Pr} (h : q ∈ l) : (off l q.1).length < l.length := by
  unfold off
  exact List.length_filter_lt_length_iff_exists.mpr ⟨q, h, by simp⟩
theorem step_less {s : Int} {p : Pr} {l : List Pr} (L : Lf s (p :: l)) : left (stepM s (p :: l)).2 < left (p :: l) := by
  unfold stepM
  cases e : (p :: l).find? (isFree (p :: l)) with
  | some q =>
    have h1 := off_len (free_some e).1
    have h2 := able_le (reAt (off (p :: l) q.1) q.2 q.1)
    show left (reAt (off (p :: l) q.1) q.2 q.1) < left (p :: l)
    have h3 : (reAt (off (p :: l) q.1) q.2 q.1).length = (off (p :: l) q.1).length := List.length_map ..
    unfold left
    omega
  | none =>
    obtain ⟨_, _, q, e2⟩ := L.spare e
    show left (reAt (p :: l) p.1 s) < left (p :: l)
    have h3 : (reAt (p :: l) p.1 s).length = (p :: l).length := List.length_map ..
    have h4 : able (reAt (p :: l) p.1 s) = 0 := by
      unfold able
      rw [e2]
    have h5 : able (p :: l) = 1 := by
      unfold able
      rw [e]
    unfold left
    omega
theorem step_lf {s : Int} {p : Pr} {l : List Pr} (L : Lf s (p :: l)) : Lf s (stepM s (p :: l)).2 := by
  unfold stepM
  cases e : (p :: l).find? (isFree (p :: l)) with
  | some q => exact L.free e
  | none => exact (L.spare e).2.1
theorem step_hd {s : Int} {W h : Int → Int} {p : Pr} {l : List Pr} (L : Lf s (p :: l)) (H : Hd s W (p :: l) h) : Hd s W (stepM s (p :: l)).2 (mv h (stepM s (p :: l)).1) := by
  unfold stepM
  cases e : (p :: l).find? (isFree (p :: l)) with
  | some q => exact H.free L e
  | none => exact H.spare L e
/-- it ends, and then every register but the spare one holds what it shall -/
theorem run_all {s : Int} {W : Int → Int} : ∀ (n : Nat) (l : List Pr) (h : Int → Int), Lf s l → Hd s W l h → left l ≤ n + 1 → (runM s n l).2 = [] ∧ ∀ r, r ≠ s → ((runM s n l).1.foldl mv h) r = W r
  | 0, l, h, L, H, b => by
    have : l = [] := by
      cases l with
      | nil => rfl
      | cons p l =>
        unfold left at b
        simp only [List.length_cons] at b
        omega
    subst this
    exact ⟨rfl, fun r hr => H.done r hr (by simp)⟩
  | n + 1, [], h, L, H, b => ⟨rfl, fun r hr => H.done r hr (by simp)⟩
  | n + 1, p :: l, h, L, H, b => by
    have := step_less L
    exact run_all n (stepM s (p :: l)).2 (mv h (stepM s (p :: l)).1) (step_lf L) (step_hd L H) (by omega)
end Cb
set_option Elab.async false
set_option linter.all false
set_option maxRecDepth 100000
set_option maxHeartbeats 4000000
namespace Cb
open PySem PySem.Spec PyProof.Rows L2
abbrev s_unlike_pairs : Stmt := topS 15
theorem sc_unlike_pairs : FnScope ["shuffle", "pair"] ["shuffle"] (defScope s_unlike_pairs) := ⟨rfl, rfl, rfl, by decide +kernel, rfl, by decide +kernel, by decide +kernel⟩
abbrev s_reading_anew : Stmt := topS 16
abbrev NRa : List Str := ["pairs", "old", "new", "first", "other"]
theorem sc_reading_anew : FnScope NRa ["pairs", "old", "new"] (defScope s_reading_anew) := ⟨rfl, rfl, rfl, by decide +kernel, rfl, by decide +kernel, by decide +kernel⟩
structure TRul (K : PySem.W.Frag) (mg : Str → Option Value) : Prop where
  tm : TMov K mg
  d_unlike_pairs : Has K mg "unlike_pairs" s_unlike_pairs ["shuffle"]
  d_reading_anew : Has K mg "reading_anew" s_reading_anew ["pairs", "old", "new"]
def unl (q : Pr) : Bool := !decide (q.1 = q.2)
theorem ne_of_none' {H : Hp} {p b : Addr} {o : HO} (e : H b = some o) (h : H p = none) : b ≠ p := fun z => by rw [z, h] at e; cases e
theorem small1000'' {n : Nat} (h : n ≤ 5000) : n < sizeLine := Nat.lt_of_le_of_lt h (by decide)
section
variable {P : Program} {w : World} {K : PySem.W.Frag} {mg : Str → Option Value} {base : Heap}
/-- a list of pairs comes back, new -/
def sp_unlike : Sp := fun vs H Q _ => ∃ (v : V) (ps : List Pr), vs = [v] ∧ DT H v (.list (ps.map pairD)) ∧ ps.length ≤ 100 ∧ ∀ (p : Addr) (H' : Hp), H p = none → Same H H' → DT H' (.ref p) (.list ((ps.filter unl).map pairD)) → Q (.ref p) H'
theorem c_unlike_pairs (T : TRul K mg) : Says P w K mg base 1 "unlike_pairs" ["shuffle"] sp_unlike := by
  refine says T.d_unlike_pairs sc_unlike_pairs (fun vs H Q E h => ?_) (fun f cdv A outer s H vs Q E hr h => ?_)
  · obtain ⟨_, _, rfl, _⟩ := h; rfl
  refine ⟨_, (pss_one (ps_ret (pe_lc (own := [("pair", 1)]) (g := gName 1) rfl sc_unlike_pairs.nd (pi_list (pv 0)) (blkOk_by (N := ["shuffle", "pair"]) (sc := defScope s_unlike_pairs) (own := [("pair", 1)]) (by decide +kernel)) (fun _ _ _ _ _ => pg_name (i := 1) sc_unlike_pairs.nd rfl (Or.inl rfl)) (fun _ _ _ _ _ => pts_one (pt_cmpR op_ne (pe_ix (r := rIxT K) ix_tup (pv 1) pe_int (fun _ _ => rfl)) (pe_ix (r := rIxT K) ix_tup (pv 1) pe_int (fun _ _ => rfl)) (nomark _))) (fun _ _ _ _ _ => (pv 1))))), ?_⟩
  obtain ⟨v, ps, rfl, hd, lp, q⟩ := h
  cases hd with
  | @lst a xs _ ea da =>
  have lx := da.length
  rw [List.length_map] at lx
  refine ⟨_, rfl, a, rfl, ⟨_, SqL.of ea⟩, fun D hD => ?_⟩
  refine lc_it (walk_list (K := K) (a := a) (xs := xs)) (fun j H' => Same H H' ∧ ∃ acc, H' D = some (.lst acc) ∧ DTs H acc (((ps.take j).filter unl).map pairD)) ⟨same_new hD, [], upd_same, .nil⟩ (fun i H' _ z => SqL.of (z.1 _ _ ea)) ?_ ?_
  · rintro j x H2 H3 hj ⟨s2, acc, hacc, dacc⟩ ⟨rfl, hx⟩
    have hps : ps[j]? = some (ps[j]'(by omega)) := List.getElem?_eq_getElem _
    have dx := da.get hx (show (ps.map pairD)[j]? = some (pairD (ps[j]'(by omega))) by rw [List.getElem?_map, hps]; rfl)
    generalize ps[j]'(by omega) = r at hps dx
    have et : (ps.take (j + 1)).filter unl = (ps.take j).filter unl ++ (if unl r = true then [r] else []) := by
      rw [List.take_add_one, hps, List.filter_append]
      congr 1
      show List.filter unl [r] = _
      cases e : unl r <;> simp [e]
    have lacc := dacc.length
    rw [List.length_map] at lacc
    have lf : ((ps.take j).filter unl).length ≤ j := Nat.le_trans (List.length_filter_le ..) (by rw [List.length_take]; omega)
    have dx0 := dx
    cases dx with
    | @tup t ys _ et2 dt =>
      cases dt with
      | cons h1 h2 =>
        cases h1
        cases h2 with
        | cons h3 h4 =>
          cases h3
          cases h4
          refine ⟨rfl, _, rfl, t, _, 0, _, rfl, rfl, SqT.of (s2 _ _ et2), rfl, _, rfl, t, _, 1, _, rfl, rfl, SqT.of (s2 _ _ et2), rfl, rfl, _, rfl, ifNeI (fun ne => ?_) (fun eq => ?_)⟩
          · have eu : unl r = true := by simp [unl, ne]
            rw [et, if_pos eu]
            refine ⟨_, rfl, acc, hacc, small1000'' (by omega), ?_, acc ++ [.ref t], upd_same, ?_⟩
            · intro b o e
              rw [upd_ne (ne_of_none e hD)]
              exact s2 _ _ e
            · rw [List.map_append]
              exact DTs.snoc dacc dx0
          · have eu : unl r = false := by simp [unl, eq]
            rw [et, if_neg (by rw [eu]; decide), List.append_nil]
            exact ⟨s2, acc, hacc, dacc⟩
  · rintro H2 ⟨s2, acc, hacc, dacc⟩
    rw [lx, List.take_length] at dacc
    exact q D H2 hD s2 (.lst hacc (dacc.same s2 _))
end
end Cb
set_option Elab.async false
set_option linter.all false
set_option maxRecDepth 100000
set_option maxHeartbeats 4000000
namespace Cb
open PySem PySem.Spec PyProof.Rows L2
theorem hidS' {S : List Addr} {H H' : Hp} (s : Same H H') : Same (hid S H) (hid S H') := Keep.hid (fun b o _ e => s b o e)
theorem reAt_take {ps : List Pr} {j : Nat} {r : Pr} {o n : Int} (h : ps[j]? = some r) : reAt (ps.take (j + 1)) o n = reAt (ps.take j) o n ++ [(r.1, if r.2 = o then n else r.2)] := by
  unfold reAt
  rw [List.take_add_one, h, List.map_append]
  rfl
section
variable {P : Program} {w : World} {K : PySem.W.Frag} {mg : Str → Option Value} {base : Heap}
def sp_anew : Sp := fun vs H Q _ => ∃ (v : V) (ps : List Pr) (o n : Int), vs = [v, .int o, .int n] ∧ DT H v (.list (ps.map pairD)) ∧ ps.length ≤ 100 ∧ ∀ (p : Addr) (H' : Hp), H p = none → Same H H' → DT H' (.ref p) (.list ((reAt ps o n).map pairD)) → Q (.ref p) H'
theorem c_reading_anew (T : TRul K mg) : Says P w K mg base 1 "reading_anew" ["pairs", "old", "new"] sp_anew := by
  refine says T.d_reading_anew sc_reading_anew (fun vs H Q E h => ?_) (fun f cdv A outer s H vs Q E hr h => ?_)
  · obtain ⟨_, _, _, _, rfl, _⟩ := h; rfl
  refine ⟨_, (pss_one (ps_ret (pe_lc (own := [("first", 3), ("other", 4)]) (g := gTup K 2 (gCons (gName 3) (gCons (gName 4) gNil))) (tt := tYes) rfl sc_reading_anew.nd (pi_list (pv 0)) (blkOk_by (N := NRa) (sc := defScope s_reading_anew) (own := [("first", 3), ("other", 4)]) (by decide +kernel)) (fun _ _ _ _ _ => pg_tup rfl (pgs_cons (pg_name (i := 3) sc_reading_anew.nd rfl (.inl rfl)) (pgs_cons (pg_name (i := 4) sc_reading_anew.nd rfl (.inl rfl)) pgs_nil))) (fun _ _ _ _ _ => pts_nil) (fun _ _ _ _ _ => (pe_tup (pa_cons (pv 3) (pa_cons (pe_ifExp (pt_cmpR op_eq (pv 4) (pv 1) (nomark _)) (pv 2) (pv 4)) pa_nil))))))), ?_⟩
  obtain ⟨v, ps, o, n, rfl, hd, lp, q⟩ := h
  cases hd with
  | @lst a xs _ ea da =>
  have lx := da.length
  rw [List.length_map] at lx
  refine ⟨_, rfl, a, rfl, ⟨_, SqL.of ea⟩, fun D hD => ?_⟩
  refine lc_it (walk_list (K := K) (a := a) (xs := xs)) (fun j H' => Same H H' ∧ ∃ acc, H' D = some (.lst acc) ∧ DTs (hid [D] H') acc ((reAt (ps.take j) o n).map pairD)) ⟨same_new hD, [], upd_same, .nil⟩ (fun i H' _ z => SqL.of (z.1 _ _ ea)) ?_ ?_
  · rintro j x H2 H3 hj ⟨s2, acc, hacc, dacc⟩ ⟨rfl, hx⟩
    have hps : ps[j]? = some (ps[j]'(by omega)) := List.getElem?_eq_getElem _
    have dx := da.get hx (show (ps.map pairD)[j]? = some (pairD (ps[j]'(by omega))) by rw [List.getElem?_map, hps]; rfl)
    generalize ps[j]'(by omega) = r at hps dx
    have et := reAt_take (o := o) (n := n) hps
    have lacc := dacc.length
    rw [List.length_map] at lacc
    have lf : (reAt (ps.take j) o n).length ≤ j := by
      unfold reAt
      rw [List.length_map, List.length_take]
      omega
    cases dx with
    | @tup t ys _ et2 dt =>
      cases dt with
      | cons h1 h2 =>
        cases h1
        cases h2 with
        | cons h3 h4 =>
          cases h3
          cases h4
          refine ⟨t, _, rfl, SqT.of (s2 _ _ et2), rfl, _, _, rfl, _, _, rfl, rfl, rfl, ?_⟩
          have fin : ∀ (y : Int), y = (if r.2 = o then n else r.2) → ∀ (tt : Addr), H3 tt = none → ∃ acc', (upd H3 tt (.tup [.int r.1, .int y])) D = some (.lst acc') ∧ acc'.length < sizeLine ∧ (Same H (upd (upd H3 tt (.tup [.int r.1, .int y])) D (.lst (acc' ++ [.ref tt]))) ∧ ∃ acc2, (upd (upd H3 tt (.tup [.int r.1, .int y])) D (.lst (acc' ++ [.ref tt]))) D = some (.lst acc2) ∧ DTs (hid [D] (upd (upd H3 tt (.tup [.int r.1, .int y])) D (.lst (acc' ++ [.ref tt])))) acc2 ((reAt (ps.take (j + 1)) o n).map pairD)) := by
            intro y hy tt ntt
            have ntD : tt ≠ D := (ne_of_none hacc ntt).symm
            refine ⟨acc, same_new ntt _ _ hacc, small1000'' (by omega), ?_, acc ++ [.ref tt], upd_same, ?_⟩
            · intro b o' e
              rw [upd_ne (ne_of_none e hD)]
              exact same_new ntt _ _ (s2 _ _ e)
            · rw [et, List.map_append, ← hy]
              have kk : Keep [D] H3 (upd (upd H3 tt (.tup [.int r.1, .int y])) D (.lst (acc ++ [.ref tt]))) := by
                intro b o' nb e
                rw [upd_ne (fun z => nb (by simp [z]))]
                exact same_new ntt _ _ e
              exact DTs.snoc (dacc.same kk.hid _) (.tup (hid_at (by simp [ntD]) (by rw [upd_ne ntD]; exact upd_same)) (.cons (.int _) (.cons (.int _) .nil)))
          refine ⟨_, rfl, _, rfl, _, rfl, rfl, _, rfl, ifEqI (fun eq => ?_) (fun ne => ?_)⟩
          · exact ⟨_, rfl, (show 2 ≤ sizeLine by decide), fun tt ntt => fin n (by rw [if_pos eq]) tt ntt⟩
          · exact ⟨_, rfl, (show 2 ≤ sizeLine by decide), fun tt ntt => fin r.2 (by rw [if_neg ne]) tt ntt⟩
  · rintro H2 ⟨s2, acc, hacc, dacc⟩
    rw [lx, List.take_length] at dacc
    exact q D H2 hD s2 (.lst hacc (dacc.same hid_same _))
end
end Cb
set_option Elab.async false
set_option linter.all false
set_option maxRecDepth 100000
set_option maxHeartbeats 4000000
namespace Cb
open PySem PySem.Spec PyProof.Rows L2
/-! ### a dict comprehension kept in a local name -/
section
variable {X : Cx}
theorem dcSwap {kx vx : Expr} {cs : List Comprehension} {sc : Scope} {p1 p2 : Pos} {z : Str} {n : Nat} {en : Env} (h1 : en.scope.kind = .function) (h2 : en.scope.names.lookup z = some .local) (h3 : (p2.line == p1.line) = true)
    (h4 : (sc.names.any fun (a, k) => a == z && (k == .local || k == .cell)) = false) :
    swapsWith (.DictComp kx vx cs sc p1) (some (.Name z p2)) n en = pure true := by
  have e1 : en.blockKind = .function := by
    unfold Env.blockKind
    rw [h1]
    rfl
  have e2 : en.kindOf z = some .local := h2
  unfold swapsWith
  simp only [e1, e2, h4, Expr.pos, h3]
  rfl
theorem ps_dcSet {i : Nat} {z : Str} {pz : Pos} {kx vx tg it : Expr} {fs : List Expr} {sc : Scope} {own : List (Str × Nat)} {p q : Pos} {wi : TI} {g : TG} {tt : TT} {tk tv : TE} (calm : X.calm = true) (nd : X.N.Nodup) (hz : X.N[i]? = some z) (lz : X.env.scope.names.lookup z = some .local)
    (sw : swapsWith (.DictComp kx vx [⟨tg, it, fs, 0⟩] sc p) (some (.Name z pz)) q.line X.env = pure true) (hi : PI X tg it wi) (bo : BlkOk X.N X.env.scope sc own)
    (pg : ∀ (s : Shared) (H : Hp) (C : Addr) (cl : List (Str × Addr)) (fp : List Addr), PG (X.blk s H sc (compEnvC sc cl C X.env) fp) tg g)
    (pt : ∀ (s : Shared) (H : Hp) (C : Addr) (cl : List (Str × Addr)) (fp : List Addr), PTs (X.blk s H sc (compEnvC sc cl C X.env) fp) fs tt)
    (pk : ∀ (s : Shared) (H : Hp) (C : Addr) (cl : List (Str × Addr)) (fp : List Addr), PE (X.blk s H sc (compEnvC sc cl C X.env) fp) kx tk)
    (pvv : ∀ (s : Shared) (H : Hp) (C : Addr) (cl : List (Str × Addr)) (fp : List Addr), PE (X.blk s H sc (compEnvC sc cl C X.env) fp) vx tv) (fo : ∀ x, foldedSetIterable it X.env x = pure x := by intro _; rfl) :
    PS X (.Assign [.Name z pz] (.DictComp kx vx [⟨tg, it, fs, 0⟩] sc p) q) (tAsg (tDc wi g tt tk tv (own.map (·.2))) (gName i)) := by
  constructor
  intro pins s σ H D I h
  rw [exec_Assign_Name_used _ _ _ _ sw]
  apply wpAny_bind
  apply wpAny_standAt
  apply wpAny_bind
  have h' : tDc wi g tt tk tv (own.map (·.2)) σ H (fun v H1 => gName i v σ H1 D.nx) := h
  refine wpAny_bind (thn (dc_core (use := some (assign (.Name z pz) X.env)) (Qf := fun _ t => SP X pins D .next t) calm nd I hi bo pg pt pk pvv fo h' ?_) fun _ _ w => wpAny_pure (wpAny_pure w))
  intro d C t m H2 I2 done ns ⟨a0, a1, a2, a3, a4, a5⟩
  show wpAny _ _ (assign (.Name z pz) X.env (.ref d)) _ _ _
  refine wpAny_assign_Name (store_ok2 (v := V.ref d) I2 nd hz (.inl lz) rfl (fun u I3 ⟨b, keep, eb⟩ => ?_) (.inr lz))
  have off : C ≠ b := eb.elim (fun e => e ▸ a1) fun e r => a4 z b e r.symm
  exact ⟨m, ns.sameBut keep off, fun w kw => ⟨_, H2, I3.turned (t' := u.toks) (fun b o hb e => (kw.2 b hb).trans e) a0 a1 a3 a4 a5, done⟩⟩
end
/-- a dict comprehension over whatever is walked -/
theorem dc_walk {J : It} {n : Nat} {G : Hp → Prop} {Y : Nat → Hp → V → Hp → Prop} (wk : Walk J n G Y) {g : TG} {tt : TT} {tk tv : TE} {vs : List Nat} {σ : L2.St} {H0 : Hp} {D : Addr} {Z : Hp → Prop} (I : Nat → Hp → Prop) (start : I 0 (upd H0 D (.dK []))) (goes : ∀ j H, j ≤ n → I j H → G H)
    (turn : ∀ j x H H', j < n → I j H → Y j H x H' → g x (wipe σ vs) H' fun σ2 H2 => wipe σ2 vs = wipe σ vs ∧ tt σ2 H2 fun c H3 =>
      if c = true then tk σ2 H3 fun y H4 => tv σ2 H4 fun z H5 => ∃ kvs k, y = kV k ∧ H5 D = some (.dK kvs) ∧ kvs.length < sizeLine ∧ I (j + 1) (upd H5 D (.dK (putK kvs k z))) else I (j + 1) H3)
    (fin : ∀ H, I n H → Z H) :
    ∃ W : Nat → Nat → Hp → Prop, (∃ m, W 0 m (upd H0 D (.dK []))) ∧ ∀ j m H, W j m H →
      (J.stop j H ∧ Z H) ∨ (J.go j H ∧ ∃ N : Hp → Prop, (∀ H', N H' → ∃ m', m' < m ∧ W (j + 1) m' H') ∧ ∀ x H', J.yld j H x H' → g x (wipe σ vs) H' fun σ2 H2 => wipe σ2 vs = wipe σ vs ∧ tt σ2 H2 fun c H3 =>
        if c = true then tk σ2 H3 fun y H4 => tv σ2 H4 fun z H5 => ∃ kvs k, y = kV k ∧ H5 D = some (.dK kvs) ∧ kvs.length < sizeLine ∧ N (upd H5 D (.dK (putK kvs k z))) else N H3) := by
  let W : Nat → Nat → Hp → Prop := fun j m H => j + m = n ∧ I j H
  refine ⟨W, ⟨n, Nat.zero_add n, start⟩, ?_⟩
  rintro j m H ⟨em, inv⟩
  have hG := goes j H (by omega) inv
  cases m with
  | zero =>
    obtain rfl : j = n := by omega
    exact .inl ⟨wk.stops H hG, fin H inv⟩
  | succ m =>
    have lt : j < n := by omega
    exact .inr ⟨wk.goes j H lt hG, I (j + 1), fun H' i' => ⟨m, Nat.lt_succ_self m, by omega, i'⟩, fun x H' y => turn j x H H' lt inv (wk.yields j H x H' lt hG y)⟩
end Cb
set_option Elab.async false
set_option linter.all false
set_option maxRecDepth 100000
set_option maxHeartbeats 4000000
namespace Cb
open PySem PySem.Spec PyProof.Rows L2
abbrev s_first_able : Stmt := topS 17
abbrev NFa : List Str := ["left", "wanted", "number", "pair", "_", "other"]
theorem sc_first_able : FnScope NFa ["left"] (defScope s_first_able) := ⟨rfl, rfl, rfl, by decide +kernel, rfl, by decide +kernel, by decide +kernel⟩
structure TFab (K : PySem.W.Frag) (mg : Str → Option Value) : Prop where
  tr : TRul K mg
  d_first_able : Has K mg "first_able" s_first_able ["left"]
  b_enumerate : mg "enumerate" = none
/-- what the dict of the read ones tells -/
def Rd (kvs : List (Key × V)) (l : List Pr) : Prop := ∀ x : Int, (valV kvs (Sum.inl x)).isSome = decide (x ∈ l.map (·.2))
section
variable {P : Program} {w : World} {K : PySem.W.Frag} {mg : Str → Option Value} {base : Heap}
/-- none, or the number of the first that is free -/
def sp_able : Sp := fun vs H Q _ => ∃ (v : V) (ps : List Pr), vs = [v] ∧ DT H v (.list (ps.map pairD)) ∧ ps.length ≤ 100 ∧ ∀ H', Same H H' →
  (ps.find? (isFree ps) = none → Q .non H') ∧ ∀ (k : Nat) (q : Pr), ps[k]? = some q → isFree ps q = true → (∀ (j : Nat) (p : Pr), j < k → ps[j]? = some p → isFree ps p = false) → Q (.int (k : Nat)) H'
theorem c_first_able (T : TFab K mg) : Says P w K mg base 1 "first_able" ["left"] sp_able := by
  refine says T.d_first_able sc_first_able (fun vs H Q E h => ?_) (fun f cdv A outer s H vs Q E hr h => ?_)
  · obtain ⟨_, _, rfl, _⟩ := h; rfl
  refine ⟨_, (pss_cons (ps_dcSet (i := 1) (own := [("_", 4), ("other", 5)]) (g := gTup K 2 (gCons (gName 4) (gCons (gName 5) gNil))) (tt := tYes) rfl sc_first_able.nd rfl rfl (dcSwap rfl rfl rfl (by decide +kernel)) (pi_list (pv 0)) (blkOk_by (N := NFa) (sc := defScope s_first_able) (own := [("_", 4), ("other", 5)]) (by decide +kernel)) (fun _ _ _ _ _ => pg_tup rfl (pgs_cons (pg_name (i := 4) sc_first_able.nd rfl (.inl rfl)) (pgs_cons (pg_name (i := 5) sc_first_able.nd rfl (.inl rfl)) pgs_nil))) (fun _ _ _ _ _ => pts_nil) (fun _ _ _ _ _ => (pv 5)) (fun _ _ _ _ _ => pe_bl))
    (pss_cons (ps_for PassesOwn.never rfl (pi_enum (by rfl) T.b_enumerate (pa_cons (pv 0) pa_nil)) (pg_tup rfl (pgs_cons (pg_name (i := 2) sc_first_able.nd rfl (.inl rfl)) (pgs_cons (pg_name (i := 3) sc_first_able.nd rfl (.inl rfl)) pgs_nil)))
        (pss_one (ps_if (pt_cmp (pc_dnotin (hu_of hr) (pe_ix ix_tup (pv 3) pe_int (fun _ _ => rfl)) (pv 1)) (by rfl))
            (pss_one (ps_ret (pv 2)))
            pss_nil)))
    (pss_one (ps_ret pe_non)))), ?_⟩
  obtain ⟨v, ps, rfl, hd, lp, q⟩ := h
  cases hd with
  | @lst a xs _ ea da =>
  have lx := da.length
  rw [List.length_map] at lx
  have pr : ∀ (j : Nat) (x : V), xs[j]? = some x → ∃ (r : Pr) (t : Addr), ps[j]? = some r ∧ x = .ref t ∧ H t = some (.tup [.int r.1, .int r.2]) := by
    intro j x hx
    have hj := (List.getElem?_eq_some_iff.mp hx).1
    have hps : ps[j]? = some (ps[j]'(by omega)) := List.getElem?_eq_getElem _
    have dx := da.get hx (show (ps.map pairD)[j]? = some (pairD (ps[j]'(by omega))) by rw [List.getElem?_map, hps]; rfl)
    generalize ps[j]'(by omega) = r at hps dx
    cases dx with
    | @tup t ys _ et2 dt =>
      cases dt with
      | cons h1 h2 =>
        cases h1
        cases h2 with
        | cons h3 h4 =>
          cases h3
          cases h4
          exact ⟨r, t, hps, rfl, et2⟩
  refine ⟨_, rfl, a, rfl, ⟨_, SqL.of ea⟩, fun D hD => ?_⟩
  refine dc_walk (walk_list (K := K) (a := a) (xs := xs)) (fun j H' => Same H H' ∧ ∃ kvs, H' D = some (.dK kvs) ∧ Rd kvs (ps.take j) ∧ kvs.length ≤ j) ⟨same_new hD, [], upd_same, fun x => rfl, Nat.le_refl _⟩ (fun i H' _ z => SqL.of (z.1 _ _ ea)) ?_ ?_
  · rintro j x H2 H3 hj ⟨s2, kvs, hk, rd, lk⟩ ⟨rfl, hx⟩
    obtain ⟨r, t, hps, rfl, ht⟩ := pr j x hx
    refine ⟨t, _, rfl, SqT.of (s2 _ _ ht), rfl, _, _, rfl, _, _, rfl, rfl, rfl, ?_⟩
    refine ⟨_, rfl, kvs, Sum.inl r.2, rfl, hk, small1000'' (by omega), ?_, _, upd_same, ?_, ?_⟩
    · intro b o e
      rw [upd_ne (ne_of_none e hD)]
      exact s2 _ _ e
    · intro y
      rw [valV_put]
      have et : (ps.take (j + 1)).map (·.2) = (ps.take j).map (·.2) ++ [r.2] := by
        rw [List.take_add_one, hps, List.map_append]
        rfl
      rw [et]
      by_cases e : y = r.2
      · subst e
        simp
      · rw [if_neg fun z => e (Sum.inl.inj z), rd y]
        simp [e]
    · have := length_putK kvs (Sum.inl r.2) (V.bl true)
      omega
  · rintro H2 ⟨s2, kvs, hk, rd, lk⟩
    rw [lx, List.take_length] at rd
    refine ⟨_, rfl, a, xs, rfl, SqL.of (s2 _ _ ea), ?_⟩
    refine for_it (walk_enum (K := K) (a := a) (xs := xs)) (fun j σ H' => (∃ x2 x3 : Option V, σ = [some (.ref a), some (.ref D), x2, x3, none, none]) ∧ Same H2 H' ∧ ∀ (i : Nat) (p : Pr), i < j → ps[i]? = some p → isFree ps p = false) ⟨⟨_, _, rfl⟩, Same.refl _, fun i p hi => absurd hi (Nat.not_lt_zero i)⟩ (fun j σ H' _ z => SqL.of (z.2.1 _ _ (s2 _ _ ea))) ?_ ?_
    · rintro j x σ H3 H4 hj ⟨⟨x2, x3, rfl⟩, s3, old⟩ ⟨T', y1, y2, rfl, nT, rfl, e1, hx⟩
      obtain ⟨r, t, hps, rfl, ht⟩ := pr j y2 hx
      obtain rfl := Option.some.inj e1
      have s4 := s3.trans (same_new (o := .tup [.int (j : Nat), .ref t]) nT)
      refine ⟨T', _, rfl, SqT.of upd_same, rfl, _, _, rfl, _, _, rfl, rfl, ?_⟩
      refine ⟨_, rfl, t, _, 0, _, rfl, rfl, SqT.of (s4 _ _ (s2 _ _ ht)), rfl, _, rfl, D, _, rfl, DGet.k (k := Sum.inl r.1) (s4 _ _ hk), _, rfl, ?_⟩
      rw [rd r.1]
      cases hf : isFree ps r with
      | true =>
        have : decide (r.1 ∈ ps.map (·.2)) = false := by
          unfold isFree at hf
          simpa using hf
        rw [this]
        exact iteT ⟨_, rfl, (q _ (s2.trans s4)).2 j r hps hf old⟩
      | false =>
        have : decide (r.1 ∈ ps.map (·.2)) = true := by
          unfold isFree at hf
          simpa using hf
        rw [this]
        refine iteF ⟨⟨_, _, rfl⟩, s4, fun i p hi hp => ?_⟩
        by_cases e : i = j
        · subst e
          rw [hps] at hp
          obtain rfl := Option.some.inj hp
          exact hf
        · exact old i p (by omega) hp
    · rintro σ H3 ⟨⟨x2, x3, rfl⟩, s3, old⟩
      refine (q _ (s2.trans s3)).1 ?_
      rw [List.find?_eq_none]
      intro p hp
      obtain ⟨i, hi, e⟩ := List.mem_iff_getElem.mp hp
      have := old i p (by omega) (by rw [List.getElem?_eq_getElem hi, e])
      rw [this]
      decide
end
end Cb
set_option Elab.async false
set_option linter.all false
set_option maxRecDepth 100000
set_option maxHeartbeats 4000000
namespace Cb
open PySem PySem.Spec PyProof.Rows L2
abbrev s_moves_of : Stmt := topS 18
abbrev NMo : List Str := ["shuffle", "spare", "left", "found", "able", "first", "other"]
theorem sc_moves_of : FnScope NMo ["shuffle", "spare"] (defScope s_moves_of) := ⟨rfl, rfl, rfl, by decide +kernel, rfl, by decide +kernel, by decide +kernel⟩
structure TMof (K : PySem.W.Frag) (mg : Str → Option Value) : Prop where
  tf : TFab K mg
  d_moves_of : Has K mg "moves_of" s_moves_of ["shuffle", "spare"]
/-- pairs are no generators -/
theorem dt_hide {g a : Addr} {H : Hp} {o : HO} {r : List Pr} (hg : H g = some o) (no : ∀ xs, o ≠ .tup xs) (na : a ≠ g) (d : DT H (.ref a) ((PyData.list (r.map pairD)))) : DT (hid [g] H) (.ref a) ((PyData.list (r.map pairD))) := by
  cases d with
  | lst e x =>
    refine .lst (hid_at (nin1 na) e) ?_
    clear e
    revert x
    generalize ‹List V› = xs
    induction r generalizing xs with
    | nil =>
      intro x
      cases x
      exact .nil
    | cons p r ih =>
      intro x
      cases x with
      | cons b x =>
        refine .cons ?_ (ih _ x)
        cases b with
        | tup e2 x2 =>
          refine .tup (hid_at (nin1 ?_) e2) ?_
          · intro z
            rw [z, hg] at e2
            exact no _ (Option.some.inj e2)
          · cases x2 with
            | cons b2 x2 =>
              cases b2
              cases x2 with
              | cons b3 x2 =>
                cases b3
                cases x2
                exact .cons (.int _) (.cons (.int _) .nil)
theorem DTs.dropd {H : Hp} : ∀ {xs : List V} {ds : List PyData} (n : Nat), DTs H xs ds → DTs H (xs.drop n) (ds.drop n)
  | _, _, 0, h => h
  | _, [], _ + 1, h => by cases h; exact .nil
  | _, d :: ds, n + 1, h => by
    cases h with
    | cons a r => exact DTs.dropd (ds := ds) n r
theorem DTs.taked {H : Hp} : ∀ {xs : List V} {ds : List PyData} (n : Nat), DTs H xs ds → DTs H (xs.take n) (ds.take n)
  | _, _, 0, _ => .nil
  | _, [], _ + 1, h => by cases h; exact .nil
  | _, d :: ds, n + 1, h => by
    cases h with
    | cons a r => exact .cons a (DTs.taked (ds := ds) n r)
theorem cut_d1 (xs : List V) : cutV xs (some 1) none = xs.drop 1 := by
  unfold cutV
  rw [show HT.sIx xs.length 0 (some 1) = min 1 xs.length from HT.sIx_nat _ _ 1, show HT.sIx xs.length xs.length none = xs.length from HT.sIx_none _ _]
  cases xs with
  | nil => rfl
  | cons x r => simp

/-- the row of moves that the rule gives -/
def ruleM (s : Int) (l : List Pr) : List Pr := (runM s (left l) l).1
theorem step_some {s : Int} {l : List Pr} {q : Pr} (h : l.find? (isFree l) = some q) : stepM s l = (q, reAt (off l q.1) q.2 q.1) := by
  unfold stepM
  rw [h]
theorem step_none {s : Int} {p : Pr} {l : List Pr} (h : (p :: l).find? (isFree (p :: l)) = none) : stepM s (p :: l) = ((s, p.1), reAt (p :: l) p.1 s) := by
  unfold stepM
  rw [h]
theorem off_at {l : List Pr} {k : Nat} {q : Pr} (nd : (l.map (·.1)).Nodup) (h : l[k]? = some q) : off l q.1 = l.take k ++ l.drop (k + 1) := by
  induction l generalizing k with
  | nil => simp at h
  | cons x l ih =>
    have n2 := List.nodup_cons.mp nd
    cases k with
    | zero =>
      obtain rfl : x = q := by simpa using h
      have : off l x.1 = l := by
        unfold off
        rw [List.filter_eq_self]
        intro p hp
        have : p.1 ≠ x.1 := fun e => n2.1 (List.mem_map.mpr ⟨p, hp, e⟩)
        simpa using this
      have e : off (x :: l) x.1 = off l x.1 := by simp [off]
      rw [e, this]
      simp
    | succ k =>
      have hk : l[k]? = some q := by simpa using h
      have ne : x.1 ≠ q.1 := fun e => n2.1 (List.mem_map.mpr ⟨q, List.mem_of_getElem? hk, e.symm⟩)
      have e : off (x :: l) q.1 = x :: off l q.1 := by simp [off, ne]
      rw [e, ih n2.2 hk]
      simp
theorem find_at {l : List Pr} {k : Nat} {q : Pr} (f : Pr → Bool) (h : l[k]? = some q) (hq : f q = true) (old : ∀ (j : Nat) (p : Pr), j < k → l[j]? = some p → f p = false) : l.find? f = some q := by
  induction l generalizing k with
  | nil => simp at h
  | cons x l ih =>
    cases k with
    | zero =>
      obtain rfl : x = q := by simpa using h
      rw [List.find?_cons_of_pos hq]
    | succ k =>
      have hx := old 0 x (Nat.succ_pos _) rfl
      rw [List.find?_cons_of_neg (by rw [hx]; decide)]
      exact ih (by simpa using h) fun j p hj hp => old (j + 1) p (by omega) (by simpa using hp)
end Cb
set_option Elab.async false
set_option linter.all false
set_option maxRecDepth 100000
set_option maxHeartbeats 4000000
namespace Cb
open PySem PySem.Spec PyProof.Rows L2
def WMo (v : V) (s : Int) (l0 : List Pr) (H : Hp) (m : Nat) (σ : L2.St) (H' : Hp) : Prop := ∃ (x4 x5 x6 : Option V) (L D : Addr) (F l : List Pr) (n : Nat) (acc : List V), σ = [some v, some (.int s), some (.ref L), some (.ref D), x4, x5, x6] ∧ m = left l ∧ Same H H' ∧ H D = none ∧ L ≠ D ∧
  H' D = some (.lst acc) ∧ DTs (hid [D] H') acc (F.map pairD) ∧ DT (hid [D] H') (.ref L) (.list (l.map pairD)) ∧ Lf s l ∧ l.length ≤ 40 ∧ left l ≤ n + 1 ∧ F ++ (runM s n l).1 = ruleM s l0 ∧ F.length + left l ≤ 90
section
variable {P : Program} {w : World} {K : PySem.W.Frag} {mg : Str → Option Value} {base : Heap}
def sp_moves_of : Sp := fun vs H Q _ => ∃ (v : V) (ps : List Pr) (s : Int), vs = [v, .int s] ∧ DT H v (.list (ps.map pairD)) ∧ ps.length ≤ 40 ∧ Lf s (ps.filter unl) ∧ ∀ (p : Addr) (H' : Hp), H p = none → Same H H' → DT H' (.ref p) (.list ((ruleM s (ps.filter unl)).map pairD)) → Q (.ref p) H'
theorem c_moves_of (T : TMof K mg) : Says P w K mg base 2 "moves_of" ["shuffle", "spare"] sp_moves_of := by
  refine says T.d_moves_of sc_moves_of (fun vs H Q E h => ?_) (fun f cdv A outer s H vs Q E hr h => ?_)
  · obtain ⟨_, _, _, rfl, _⟩ := h; rfl
  refine ⟨_, (pss_cons (ps_par (i := 2) (j := 3) rfl sc_moves_of.nd rfl rfl (by decide) rfl rfl (pa_cons (pe_s (c_unlike_pairs T.tf.tr) hr (pa_cons (pv 0) pa_nil)) (pa_cons (pe_lst pa_nil) pa_nil)) rfl)
    (pss_cons (ps_while PassesOwn.never (pt_truth (pv 2) (fun _ => rfl))
        (pss_cons (ps_set (i := 4) sc_moves_of.nd rfl (.inl rfl) (pe_s (c_first_able T.tf) hr (pa_cons (pv 2) pa_nil)))
        (pss_one (ps_if (pt_cmpR op_isN (pv 4) pe_non (nomark _))
            (pss_cons (ps_set (i := 5) sc_moves_of.nd rfl (.inl rfl) (pe_ix ix_tup (pe_ix ix_list (pv 2) pe_int (fun _ _ => rfl)) pe_int (fun _ _ => rfl)))
            (pss_cons (ps_expr (pe_bm PySem.F.plainAttrs_list PySem.F.slot_list_append PySem.F.type_list_append mt_append (pv 3) (pa_cons (pe_tup (pa_cons (pv 1) (pa_cons (pv 5) pa_nil))) pa_nil)))
            (pss_one (ps_set (i := 2) sc_moves_of.nd rfl (.inl rfl) (pe_s (c_reading_anew T.tf.tr) hr (pa_cons (pv 2) (pa_cons (pv 5) (pa_cons (pv 1) pa_nil))))))))
            (pss_cons (ps_asg (pe_ix ix_list (pv 2) (pv 4) (fun _ _ => rfl)) (pg_tup rfl (pgs_cons (pg_name (i := 5) sc_moves_of.nd rfl (.inl rfl)) (pgs_cons (pg_name (i := 6) sc_moves_of.nd rfl (.inl rfl)) pgs_nil))))
            (pss_cons (ps_expr (pe_bm PySem.F.plainAttrs_list PySem.F.slot_list_append PySem.F.type_list_append mt_append (pv 3) (pa_cons (pe_tup (pa_cons (pv 5) (pa_cons (pv 6) pa_nil))) pa_nil)))
            (pss_one (ps_set (i := 2) sc_moves_of.nd rfl (.inl rfl) (pe_s (c_reading_anew T.tf.tr) hr (pa_cons (pe_op op_cat (pe_slice sl_list (pv 2) po_none (po_some (pv 4))) (pe_slice sl_list (pv 2) (po_some (pe_op op_add (pv 4) pe_int)) po_none)) (pa_cons (pv 6) (pa_cons (pv 5) pa_nil))))))))))))
    (pss_one (ps_ret (pv 3))))), ?_⟩
  obtain ⟨v, ps, s, rfl, hd, lp, lf, q⟩ := h
  refine ⟨_, rfl, v, ps, rfl, hd, by omega, fun L H1 nL s1 dL => ⟨Nat.zero_le _, fun D nD => ⟨_, _, rfl, ?_⟩⟩⟩
  have lfl : (ps.filter unl).length ≤ 40 := Nat.le_trans (List.length_filter_le ..) lp
  have hLD : L ≠ D := by
    cases dL with
    | lst e _ => exact ne_of_none e nD
  have nD0 := s1.free nD
  have s2 := s1.trans (same_new (o := .lst []) nD)
  have hD : (upd H1 D (.lst [])) D = some (.lst []) := upd_same
  have dL2 : DT (hid [D] (upd H1 D (.lst []))) (.ref L) (.list ((ps.filter unl).map pairD)) := dt_hide hD (fun _ => HO.noConfusion) hLD (dL.same (same_new nD) _)
  generalize upd H1 D (.lst []) = H2 at s2 hD dL2 ⊢
  have al := able_le (ps.filter unl)
  refine ⟨WMo v s (ps.filter unl) H, ⟨_, none, none, none, L, D, [], ps.filter unl, left (ps.filter unl), [], rfl, rfl, s2, nD0, hLD, hD, .nil, dL2, lf, lfl, Nat.le_succ _, rfl, by unfold left; simp only [List.length_nil]; omega⟩, ?_⟩
  clear dL2 hD s2 nD0 hLD nD dL nL
  rintro m σ H3 ⟨x4, x5, x6, L, D, F, l, n, acc, rfl, rfl, s3, nD, hLD, hD, dacc, dL, LF, ll, ln, eq, bF⟩
  obtain ⟨xs, hL, dxs⟩ : ∃ xs, (hid [D] H3) L = some (.lst xs) ∧ DTs (hid [D] H3) xs (l.map pairD) := by
    cases dL with
    | lst e r => exact ⟨_, e, r⟩
  have lxs := dxs.length
  rw [List.length_map] at lxs
  refine ⟨_, rfl, _, .inl ⟨_, SqL.of (hid_out hL).2, rfl⟩, ?_⟩
  cases l with
  | nil =>
    obtain rfl : xs = [] := List.eq_nil_of_length_eq_zero lxs
    have e2 : (runM s n []).1 = [] := by cases n <;> rfl
    rw [e2, List.append_nil] at eq
    refine iteF ⟨_, rfl, q D H3 nD s3 ?_⟩
    rw [← eq]
    exact .lst hD (dacc.same hid_same _)
  | cons p l =>
    have lacc := dacc.length
    rw [List.length_map] at lacc
    cases n with
    | zero =>
      exfalso
      unfold left at ln
      simp only [List.length_cons] at ln
      omega
    | succ n =>
    have pr : ∀ (j : Nat) (r : Pr), (p :: l)[j]? = some r → ∃ t : Addr, xs[j]? = some (.ref t) ∧ H3 t = some (.tup [.int r.1, .int r.2]) := by
      intro j r hr
      have hj := (List.getElem?_eq_some_iff.mp hr).1
      have hx : xs[j]? = some (xs[j]'(by omega)) := List.getElem?_eq_getElem _
      have dx := dxs.get hx (show ((p :: l).map pairD)[j]? = some (pairD r) by rw [List.getElem?_map, hr]; rfl)
      generalize xs[j]'(by omega) = x at hx dx
      cases dx with
      | @tup t ys _ et2 dt =>
        cases dt with
        | cons h1 h2 =>
          cases h1
          cases h2 with
          | cons h3 h4 =>
            cases h3
            cases h4
            exact ⟨t, hx, (hid_out et2).2⟩
    have less := step_less LF
    have lf2 := step_lf LF
    have run : (runM s (n + 1) (p :: l)).1 = (stepM s (p :: l)).1 :: (runM s n (stepM s (p :: l)).2).1 := rfl
    rw [run] at eq
    have hne : (!xs.isEmpty) = true := by
      cases xs with
      | nil => simp at lxs
      | cons a b => rfl
    rw [hne]
    refine iteT ⟨WMo v s (ps.filter unl) H (left (stepM s (p :: l)).2), fun σ' H' z => ⟨_, less, z⟩, ?_⟩
    refine ⟨_, rfl, .ref L, p :: l, rfl, dL.same hid_same _, by omega, fun H4 s4 => ⟨fun hnone => ?_, fun k r hk hr2 old => ?_⟩⟩
    · rw [step_none hnone] at eq lf2 less ⊢
      have less' : left (reAt (p :: l) p.1 s) < left (p :: l) := less
      refine ⟨_, rfl, rfl, _, rfl, iteT ?_⟩
      obtain ⟨t, hx0, ht⟩ := pr 0 p rfl
      refine ⟨_, rfl, L, xs, 0, _, rfl, rfl, SqL.of (s4 _ _ (hid_out hL).2), atI_nat (j := 0) hx0, t, _, 0, _, rfl, rfl, SqT.of (s4 _ _ ht), rfl, ?_⟩
      refine ⟨_, rfl, .inl ⟨rfl, _, SqL.of (s4 _ _ hD)⟩, _, rfl, _, rfl, (show 2 ≤ sizeLine by decide), fun tt ntt => ?_⟩
      have s5 := s4.trans (same_new (o := .tup [.int s, .int p.1]) ntt)
      have hD5 := s5 _ _ hD
      have ntD : tt ≠ D := (ne_of_none (s4 _ _ hD) ntt).symm
      refine ⟨D, acc, _, rfl, rfl, hD5, small1000'' (by unfold left at bF; simp only [List.length_cons] at bF; omega), ?_⟩
      have kk : Keep [D] H3 (upd (upd H4 tt (.tup [.int s, .int p.1])) D (.lst (acc ++ [.ref tt]))) := by
        intro b o nb e
        rw [upd_ne (fun z => nb (by simp [z]))]
        exact s5 _ _ e
      have s6 : Same H (upd (upd H4 tt (.tup [.int s, .int p.1])) D (.lst (acc ++ [.ref tt]))) := by
        intro b o e
        rw [upd_ne (ne_of_none e nD)]
        exact s5 _ _ (s3 _ _ e)
      have hD6 : (upd (upd H4 tt (.tup [.int s, .int p.1])) D (.lst (acc ++ [.ref tt]))) D = some (.lst (acc ++ [.ref tt])) := upd_same
      have ht6 : (upd (upd H4 tt (.tup [.int s, .int p.1])) D (.lst (acc ++ [.ref tt]))) tt = some (.tup [.int s, .int p.1]) := (upd_ne ntD).trans upd_same
      generalize upd (upd H4 tt (.tup [.int s, .int p.1])) D (.lst (acc ++ [.ref tt])) = H6 at kk s6 hD6 ht6 ⊢
      have dacc6 : DTs (hid [D] H6) (acc ++ [.ref tt]) ((F ++ [(s, p.1)]).map pairD) := by
        rw [List.map_append]
        exact DTs.snoc (dacc.same kk.hid _) (.tup (hid_at (nin1 ntD) ht6) (.cons (.int _) (.cons (.int _) .nil)))
      have dL6 := dL.same kk.hid _
      refine ⟨_, rfl, _, rfl, _, rfl, .ref L, p :: l, p.1, s, rfl, dL6.same hid_same _, by omega, fun L2 H7 nL2 s7 dL7 => ?_⟩
      have hD7 := s7 _ _ hD6
      have nLD : L2 ≠ D := (ne_of_none hD6 nL2).symm
      refine ⟨_, _, _, L2, D, F ++ [(s, p.1)], reAt (p :: l) p.1 s, n, acc ++ [.ref tt], rfl, rfl, s6.trans s7, nD, nLD, hD7, dacc6.same (hidS' s7) _, dt_hide hD7 (fun _ => HO.noConfusion) nLD dL7, lf2, ?_, by omega, ?_, ?_⟩
      · unfold reAt
        rw [List.length_map]
        exact ll
      · rw [List.append_assoc]
        exact eq
      · rw [List.length_append, List.length_singleton]
        omega
    · have hsome := find_at _ hk hr2 old
      rw [step_some hsome] at eq lf2 less ⊢
      have less' : left (reAt (off (p :: l) r.1) r.2 r.1) < left (p :: l) := less
      refine ⟨_, rfl, rfl, _, rfl, iteF ?_⟩
      obtain ⟨t, hxk, ht⟩ := pr k r hk
      have hoff := off_at LF.nd hk
      have lk := (List.getElem?_eq_some_iff.mp hk).1
      refine ⟨_, rfl, _, rfl, L, xs, (k : Nat), _, rfl, rfl, SqL.of (s4 _ _ (hid_out hL).2), atI_nat hxk, t, _, rfl, SqT.of (s4 _ _ ht), rfl, _, _, rfl, _, _, rfl, rfl, ?_⟩
      refine ⟨_, rfl, .inl ⟨rfl, _, SqL.of (s4 _ _ hD)⟩, _, rfl, _, rfl, (show 2 ≤ sizeLine by decide), fun tt ntt => ?_⟩
      have s5 := s4.trans (same_new (o := .tup [.int r.1, .int r.2]) ntt)
      have hD5 := s5 _ _ hD
      have ntD : tt ≠ D := (ne_of_none (s4 _ _ hD) ntt).symm
      refine ⟨D, acc, _, rfl, rfl, hD5, small1000'' (by unfold left at bF; simp only [List.length_cons] at bF; omega), ?_⟩
      have kk : Keep [D] H3 (upd (upd H4 tt (.tup [.int r.1, .int r.2])) D (.lst (acc ++ [.ref tt]))) := by
        intro b o nb e
        rw [upd_ne (fun z => nb (by simp [z]))]
        exact s5 _ _ e
      have s6 : Same H (upd (upd H4 tt (.tup [.int r.1, .int r.2])) D (.lst (acc ++ [.ref tt]))) := by
        intro b o e
        rw [upd_ne (ne_of_none e nD)]
        exact s5 _ _ (s3 _ _ e)
      have hD6 : (upd (upd H4 tt (.tup [.int r.1, .int r.2])) D (.lst (acc ++ [.ref tt]))) D = some (.lst (acc ++ [.ref tt])) := upd_same
      have ht6 : (upd (upd H4 tt (.tup [.int r.1, .int r.2])) D (.lst (acc ++ [.ref tt]))) tt = some (.tup [.int r.1, .int r.2]) := (upd_ne ntD).trans upd_same
      generalize upd (upd H4 tt (.tup [.int r.1, .int r.2])) D (.lst (acc ++ [.ref tt])) = H6 at kk s6 hD6 ht6 ⊢
      have dacc6 : DTs (hid [D] H6) (acc ++ [.ref tt]) ((F ++ [(r.1, r.2)]).map pairD) := by
        rw [List.map_append]
        exact DTs.snoc (dacc.same kk.hid _) (.tup (hid_at (nin1 ntD) ht6) (.cons (.int _) (.cons (.int _) .nil)))
      have dL6 := dL.same kk.hid _
      -- left[:able] + left[able + 1:]
      obtain ⟨ys, hL6, dys⟩ : ∃ ys, (hid [D] H6) L = some (.lst ys) ∧ DTs (hid [D] H6) ys ((p :: l).map pairD) := by
        cases dL6 with
        | lst e r => exact ⟨_, e, r⟩
      have lys := dys.length
      rw [List.length_map] at lys
      refine ⟨_, rfl, _, rfl, ((k : Nat) : Int), rfl, L, ys, rfl, SqL.of (hid_out hL6).2, fun z1 n1 => ?_⟩
      have e1 : cutV ys none (some ((k : Nat) : Int)) = ys.take k := by
        unfold cutV
        rw [show HT.sIx ys.length 0 none = 0 from HT.sIx_none _ _, show HT.sIx ys.length ys.length (some ((k : Nat) : Int)) = min k ys.length from HT.sIx_nat _ _ k, Nat.min_eq_left (by omega)]
        rfl
      rw [e1]
      have c1 := same_new (o := .lst (ys.take k)) n1
      have hz1 : (upd H6 z1 (.lst (ys.take k))) z1 = some (.lst (ys.take k)) := upd_same
      generalize upd H6 z1 (.lst (ys.take k)) = Ha at c1 hz1 ⊢
      refine ⟨_, rfl, _, rfl, _, _, rfl, rfl, _, rfl, L, ys, rfl, SqL.of (c1 _ _ (hid_out hL6).2), fun z2 n2 => ?_⟩
      have e2 : cutV ys (some (((k : Nat) : Int) + 1)) none = ys.drop (k + 1) := by
        unfold cutV
        rw [show ((k : Nat) : Int) + 1 = ((k + 1 : Nat) : Int) by omega, show HT.sIx ys.length 0 (some ((k + 1 : Nat) : Int)) = min (k + 1) ys.length from HT.sIx_nat _ _ (k + 1), show HT.sIx ys.length ys.length none = ys.length from HT.sIx_none _ _, Nat.min_eq_left (by omega)]
        exact List.take_of_length_le (by rw [List.length_drop]; exact Nat.le_refl _)
      rw [e2]
      have c2 := c1.trans (same_new (o := .lst (ys.drop (k + 1))) n2)
      have hz1b := same_new (o := .lst (ys.drop (k + 1))) n2 _ _ hz1
      have hz2 : (upd Ha z2 (.lst (ys.drop (k + 1)))) z2 = some (.lst (ys.drop (k + 1))) := upd_same
      generalize upd Ha z2 (.lst (ys.drop (k + 1))) = Hb at c2 hz1b hz2 ⊢
      refine ⟨z1, z2, _, _, rfl, rfl, hz1b, hz2, Nat.le_of_lt (small1000'' (by rw [List.length_take, List.length_drop]; omega)), fun z3 n3 => ?_⟩
      have c3 := c2.trans (same_new (o := .lst (ys.take k ++ ys.drop (k + 1))) n3)
      have hz3 : (upd Hb z3 (.lst (ys.take k ++ ys.drop (k + 1)))) z3 = some (.lst (ys.take k ++ ys.drop (k + 1))) := upd_same
      generalize upd Hb z3 (.lst (ys.take k ++ ys.drop (k + 1))) = Hc at c3 hz3 ⊢
      have dcut : DT Hc (.ref z3) (.list ((off (p :: l) r.1).map pairD)) := by
        refine .lst hz3 ?_
        rw [hoff, List.map_append, List.map_take, List.map_drop]
        exact DTs.app ((dys.taked k).same (hid_same.trans c3) _) ((dys.dropd (k + 1)).same (hid_same.trans c3) _)
      have lof := off_len (q := r) (List.mem_of_getElem? hk)
      refine ⟨_, rfl, _, rfl, .ref z3, off (p :: l) r.1, r.2, r.1, rfl, dcut, by omega, fun L2 H7 nL2 s7' dL7 => ?_⟩
      have s7 := c3.trans s7'
      have hD7 := s7 _ _ hD6
      have nLD : L2 ≠ D := (ne_of_none (c3 _ _ hD6) nL2).symm
      refine ⟨_, _, _, L2, D, F ++ [(r.1, r.2)], reAt (off (p :: l) r.1) r.2 r.1, n, acc ++ [.ref tt], rfl, rfl, s6.trans s7, nD, nLD, hD7, dacc6.same (hidS' s7) _, dt_hide hD7 (fun _ => HO.noConfusion) nLD dL7, lf2, ?_, by omega, ?_, ?_⟩
      · unfold reAt
        rw [List.length_map]
        omega
      · rw [List.append_assoc]
        exact eq
      · rw [List.length_append, List.length_singleton]
        omega
end
end Cb
set_option Elab.async false
set_option linter.all false
set_option maxRecDepth 100000
set_option maxHeartbeats 4000000
namespace Cb
open PySem PySem.Spec PyProof.Rows L2
abbrev s_moves : Stmt := topS 19
theorem sc_moves : FnScope ["shuffle", "spare"] ["shuffle", "spare"] (defScope s_moves) := ⟨rfl, rfl, rfl, by decide +kernel, rfl, by decide +kernel, by decide +kernel⟩
structure TMvs (K : PySem.W.Frag) (mg : Str → Option Value) : Prop where
  to : TMof K mg
  d_moves : Has K mg "moves" s_moves ["shuffle", "spare"]
  k_moves : HasK K mg "moves" s_moves ["shuffle", "spare"] ["spare", "shuffle"] List.reverse
theorem lf_of {ps : List Pr} {s : Int} (S : Shuf ps) (Fr : Free ps s) : Lf s (ps.filter unl) := by
  refine ⟨S.nd.sublist (List.Sublist.map _ List.filter_sublist), ?_, ?_⟩
  · intro q hq
    have := (List.mem_filter.mp hq).2
    simpa [unl] using this
  · intro h
    obtain ⟨q, hq, e⟩ := List.mem_map.mp h
    exact (Fr.2 q (List.mem_filter.mp hq).1).1 e
section
variable {P : Program} {w : World} {K : PySem.W.Frag} {mg : Str → Option Value} {base : Heap}
def sp_mvs : Sp := fun vs H Q _ => ∃ (v : V) (ps : List Pr) (s : Int), vs = [v, .int s] ∧ DT H v (.list (ps.map pairD)) ∧ Shuf ps ∧ Free ps s ∧ ∀ (p : Addr) (H' : Hp), H p = none → Same H H' → DT H' (.ref p) (.list ((ruleM s (ps.filter unl)).map pairD)) → Q (.ref p) H'
theorem b_moves (T : TMvs K mg) : Body P w K mg base 6 "moves" s_moves ["shuffle", "spare"] sp_mvs := by
  intro f cdv A outer st H vs Q E hr h
  refine ⟨_, (pss_cons (ps_expr (pe_s (c_ask_shuffle T.to.tf.tr.tm) hr (pa_cons (pv 0) pa_nil)))
    (pss_cons (ps_expr (pe_s (c_ask_spare T.to.tf.tr.tm) hr (pa_cons (pv 0) (pa_cons (pv 1) pa_nil))))
    (pss_one (ps_ret (pe_s (c_moves_of T.to) hr (pa_cons (pv 0) (pa_cons (pv 1) pa_nil))))))), ?_⟩
  obtain ⟨v, ps, s, rfl, hd, S, Fr, q⟩ := h
  refine ⟨_, rfl, v, ps, rfl, hd, S, fun H1 s1 => ?_⟩
  refine ⟨_, rfl, _, rfl, v, ps, s, rfl, hd.same s1 _, S, Fr, fun H2 s2 => ?_⟩
  have s12 := s1.trans s2
  exact ⟨_, rfl, _, rfl, v, ps, s, rfl, hd.same s12 _, S.few, lf_of S Fr, fun p H' np s' d => q p H' (s12.free np) (s12.trans s') d⟩
theorem c_moves (T : TMvs K mg) : Says P w K mg base 7 "moves" ["shuffle", "spare"] sp_mvs := says T.d_moves sc_moves (fun vs H Q E h => by obtain ⟨_, _, _, rfl, _⟩ := h; rfl) (b_moves T)
theorem k_moves (T : TMvs K mg) : SaysK P w K mg base 7 "moves" ["shuffle", "spare"] ["spare", "shuffle"] List.reverse sp_mvs := saysK T.k_moves sc_moves (fun vs H Q E h => by obtain ⟨_, _, _, rfl, _⟩ := h; rfl) (b_moves T)
end
end Cb
set_option Elab.async false
set_option linter.all false
set_option maxRecDepth 100000
set_option maxHeartbeats 4000000
namespace Cb
open PySem PySem.Spec PyProof.Rows L2
abbrev s_ring_from : Stmt := topS 20
abbrev NRf : List Str := ["first", "table", "found", "at"]
theorem sc_ring_from : FnScope NRf ["first", "table"] (defScope s_ring_from) := ⟨rfl, rfl, rfl, by decide +kernel, rfl, by decide +kernel, by decide +kernel⟩
structure TRf (K : PySem.W.Frag) (mg : Str → Option Value) : Prop where
  tv : TMvs K mg
  d_ring_from : Has K mg "ring_from" s_ring_from ["first", "table"]
/-- what a register is to hold -/
def lk (l : List Pr) (x : Int) : Option Int := (l.find? fun q => decide (q.1 = x)).map (·.2)
def Tb (kvs : List (Key × V)) (l : List Pr) : Prop := ∀ x : Int, valV kvs (Sum.inl x) = (lk l x).map V.int
def ringGo (l : List Pr) (first : Int) : Nat → Int → List Int → Option (List Int)
  | 0, _, _ => none
  | n + 1, at_, F => if at_ = first then some F else match lk l at_ with
    | none => none
    | some y => if l.length < F.length then none else ringGo l first n y (F ++ [at_])
section
variable {P : Program} {w : World} {K : PySem.W.Frag} {mg : Str → Option Value} {base : Heap}
def sp_ring : Sp := fun vs H Q _ => ∃ (T : Addr) (kvs : List (Key × V)) (l : List Pr) (first y0 : Int), vs = [.int first, .ref T] ∧ H T = some (.dK kvs) ∧ Tb kvs l ∧ kvs.length = l.length ∧ l.length ≤ 40 ∧ lk l first = some y0 ∧
  ∀ H', Same H H' → (ringGo l first (l.length + 2) y0 [first] = none → Q .non H') ∧ ∀ (r : List Int) (p : Addr), ringGo l first (l.length + 2) y0 [first] = some r → H p = none → H' p = some (.lst (r.map V.int)) → Q (.ref p) H'
theorem c_ring_from (T : TRf K mg) : Says P w K mg base 1 "ring_from" ["first", "table"] sp_ring := by
  refine says T.d_ring_from sc_ring_from (fun vs H Q E h => ?_) (fun f cdv A outer s H vs Q E hr h => ?_)
  · obtain ⟨_, _, _, _, _, rfl, _⟩ := h; rfl
  refine ⟨_, (pss_cons (ps_par (i := 2) (j := 3) rfl sc_ring_from.nd rfl rfl (by decide) rfl rfl (pa_cons (pe_lst (pa_cons (pv 0) pa_nil)) (pa_cons (pe_dget (hu_of hr) (pv 1) (pv 0) (fun _ _ => rfl)) pa_nil)) rfl)
    (pss_cons (ps_while PassesOwn.never (pt_cmpR op_ne (pv 3) (pv 0) (nomark _))
        (pss_cons (ps_if (PW.pt (pw_or (pt_cmp (pc_dnotin (hu_of hr) (pv 3) (pv 1)) (by rfl)) (pw_or1 (pt_cmpR op_gt (pe_callB call_len_seq (by rfl) T.tv.to.tf.tr.tm.b_len (by decide +kernel) (pa_cons (pv 2) pa_nil)) (pe_callB call_lenD (by rfl) T.tv.to.tf.tr.tm.b_len (by decide +kernel) (pa_cons (pv 1) pa_nil)) (nomark _)))))
            (pss_one (ps_ret pe_non))
            pss_nil)
        (pss_cons (ps_expr (pe_bm PySem.F.plainAttrs_list PySem.F.slot_list_append PySem.F.type_list_append mt_append (pv 2) (pa_cons (pv 3) pa_nil)))
        (pss_one (ps_set (i := 3) sc_ring_from.nd rfl (.inl rfl) (pe_dget (hu_of hr) (pv 1) (pv 3) (fun _ _ => rfl)))))))
    (pss_one (ps_ret (pv 2))))), ?_⟩
  obtain ⟨T', kvs, l, first, y0, rfl, hT, tb, lkv, ll, l0, q⟩ := h
  have v0 : valV kvs (Sum.inl first) = some (.int y0) := by rw [tb, l0]; rfl
  refine ⟨_, rfl, (show 1 ≤ sizeLine by decide), fun L nL => ?_⟩
  have s1 := same_new (o := .lst [.int first]) nL
  have hL : (upd H L (.lst [.int first])) L = some (.lst (([first] : List Int).map V.int)) := upd_same
  generalize upd H L (.lst [.int first]) = H1 at s1 hL ⊢
  have d0 : DGet H1 T' (.int first) (some (.int y0)) := by
    rw [← v0]
    exact DGet.k (k := Sum.inl first) (s1 _ _ hT)
  refine ⟨_, rfl, _, rfl, T', _, rfl, d0, _, _, rfl, ?_⟩
  refine ⟨fun m σ H' => ∃ (F : List Int) (y : Int), σ = [some (.int first), some (.ref T'), some (.ref L), some (.int y)] ∧ Same H H' ∧ H' L = some (.lst (F.map V.int)) ∧ F.length + m = l.length + 3 ∧ F.length ≤ l.length + 1 ∧ ringGo l first m y F = ringGo l first (l.length + 2) y0 [first], ⟨l.length + 2, [first], y0, rfl, s1, hL, by simp only [List.length_singleton]; omega, by simp, rfl⟩, ?_⟩
  rintro m σ H2 ⟨F, y, rfl, s2, hF, em, lF, eq⟩
  refine ⟨_, rfl, _, rfl, rfl, _, rfl, ifNeI (fun ne => ?_) (fun e => ?_)⟩
  · obtain ⟨m, rfl⟩ : ∃ k, m = k + 1 := ⟨m - 1, by omega⟩
    have eqn : ringGo l first (m + 1) y F = (match lk l y with
      | none => none
      | some z => if l.length < F.length then none else ringGo l first m z (F ++ [y])) := by
      show (if y = first then some F else _) = _
      rw [if_neg ne]
    rw [eqn] at eq
    refine ⟨fun σ' H' => ∃ (F : List Int) (y : Int), σ' = [some (.int first), some (.ref T'), some (.ref L), some (.int y)] ∧ Same H H' ∧ H' L = some (.lst (F.map V.int)) ∧ F.length + m = l.length + 3 ∧ F.length ≤ l.length + 1 ∧ ringGo l first m y F = ringGo l first (l.length + 2) y0 [first], fun σ' H' z => ⟨m, Nat.lt_succ_self m, z⟩, ?_⟩
    have hT2 := s2 _ _ hT
    refine ⟨_, rfl, _, rfl, T', _, rfl, DGet.k (k := Sum.inl y) hT2, _, rfl, ?_⟩
    rw [tb y]
    cases hl : lk l y with
    | none =>
      rw [hl] at eq
      exact iteT (iteT ((q _ s2).1 eq.symm))
    | some z =>
      rw [hl] at eq
      refine iteF ⟨_, rfl, L, _, rfl, .inl (SqL.of hF), _, rfl, T', kvs, rfl, hT2, _, _, rfl, rfl, _, rfl, ?_⟩
      rw [List.length_map, lkv]
      by_cases lt : l.length < F.length
      · rw [decide_eq_true (show ((l.length : Nat) : Int) < (F.length : Nat) by omega)]
        have eq' : none = ringGo l first (l.length + 2) y0 [first] := by
          rw [← eq]
          simp [lt]
        exact iteT ((q _ s2).1 eq'.symm)
      · rw [decide_eq_false (show ¬ ((l.length : Nat) : Int) < (F.length : Nat) by omega)]
        have eq' : ringGo l first m z (F ++ [y]) = ringGo l first (l.length + 2) y0 [first] := by
          rw [← eq]
          simp [lt]
        refine iteF ⟨_, rfl, .inl ⟨rfl, _, SqL.of hF⟩, _, rfl, L, _, .int y, rfl, rfl, hF, small1000'' (by rw [List.length_map]; omega), ?_⟩
        have hF3 : (upd H2 L (.lst (F.map V.int ++ [.int y]))) L = some (.lst ((F ++ [y]).map V.int)) := by
          rw [upd_same, List.map_append]
          rfl
        have s3 : Same H (upd H2 L (.lst (F.map V.int ++ [.int y]))) := fun b o e => by
          rw [upd_ne (ne_of_none e nL)]
          exact s2 _ _ e
        generalize upd H2 L (.lst (F.map V.int ++ [.int y])) = H3 at hF3 s3 ⊢
        have d3 : DGet H3 T' (.int y) (some (.int z)) := by
          have vz : valV kvs (Sum.inl y) = some (.int z) := by rw [tb, hl]; rfl
          rw [← vz]
          exact DGet.k (k := Sum.inl y) (s3 _ _ hT)
        refine ⟨_, rfl, _, rfl, T', _, rfl, d3, F ++ [y], z, rfl, s3, hF3, ?_, ?_, eq'⟩
        · rw [List.length_append, List.length_singleton]
          omega
        · rw [List.length_append, List.length_singleton]
          omega
  · obtain ⟨m, rfl⟩ : ∃ k, m = k + 1 := ⟨m - 1, by omega⟩
    have : ringGo l first (m + 1) y F = some F := by
      show (if y = first then some F else _) = _
      rw [if_pos e]
    rw [this] at eq
    exact ⟨_, rfl, (q _ s2).2 F L eq.symm nL hF⟩
end
end Cb
set_option Elab.async false
set_option linter.all false
set_option maxRecDepth 100000
set_option maxHeartbeats 4000000
namespace Cb
open PySem PySem.Spec PyProof.Rows L2
/-! ### rings, as pure things -/
def wk (l : List Pr) (x : Int) : Nat → Option Int
  | 0 => some x
  | n + 1 => (wk l x n).bind (lk l)
def Orb (l : List Pr) (x y : Int) : Prop := ∃ n, wk l x n = some y
def Cyc (l : List Pr) (x : Int) : Prop := ∃ n, wk l x (n + 1) = some x
structure Hed (l : List Pr) (x : Int) : Prop where
  cyc : Cyc l x
  lone : ∀ p ∈ l, Orb l x p.2 → Orb l x p.1
  least : ∀ y, Orb l x y → x ≤ y
theorem lk_mem {l : List Pr} {x y : Int} (h : lk l x = some y) : (x, y) ∈ l := by
  unfold lk at h
  cases e : l.find? (fun q => decide (q.1 = x)) with
  | none => rw [e] at h; cases h
  | some q =>
    rw [e] at h
    have h1 := List.mem_of_find?_eq_some e
    have h2 := List.find?_some e
    have : q.1 = x := by simpa using h2
    have h3 : q.2 = y := Option.some.inj h
    rw [← this, ← h3]
    exact h1
theorem lk_of {l : List Pr} (nd : (l.map (·.1)).Nodup) {p : Pr} (h : p ∈ l) : lk l p.1 = some p.2 := by
  unfold lk
  cases e : l.find? (fun q => decide (q.1 = p.1)) with
  | none =>
    have := List.find?_eq_none.mp e p h
    simp at this
  | some q =>
    have h1 := List.mem_of_find?_eq_some e
    have h2 := List.find?_some e
    have h3 : q.1 = p.1 := by simpa using h2
    rw [same_pair nd h1 h h3]
    rfl
theorem wk_add (l : List Pr) (x : Int) (n : Nat) : ∀ m, wk l x (n + m) = (wk l x n).bind fun y => wk l y m
  | 0 => by
    show wk l x n = _
    cases wk l x n <;> rfl
  | m + 1 => by
    show (wk l x (n + m)).bind (lk l) = _
    rw [wk_add l x n m]
    cases wk l x n <;> rfl
theorem wk_at {l : List Pr} {x y : Int} {n : Nat} (h : wk l x n = some y) (m : Nat) : wk l x (n + m) = wk l y m := by
  rw [wk_add, h]
  rfl
theorem Orb.refl (l : List Pr) (x : Int) : Orb l x x := ⟨0, rfl⟩
theorem Orb.trans {l : List Pr} {x y z : Int} (a : Orb l x y) (b : Orb l y z) : Orb l x z := by
  obtain ⟨n, a⟩ := a
  obtain ⟨m, b⟩ := b
  exact ⟨n + m, (wk_at a m).trans b⟩
theorem Orb.next {l : List Pr} {x y z : Int} (a : Orb l x y) (b : lk l y = some z) : Orb l x z := by
  obtain ⟨n, a⟩ := a
  refine ⟨n + 1, ?_⟩
  show (wk l x n).bind (lk l) = _
  rw [a]
  exact b
theorem Cyc.far {l : List Pr} {x : Int} (c : Cyc l x) : ∀ n, ∃ j, n ≤ j ∧ wk l x j = some x
  | 0 => ⟨0, Nat.le_refl _, rfl⟩
  | n + 1 => by
    obtain ⟨j, hj, e⟩ := Cyc.far c n
    obtain ⟨m, c⟩ := c
    exact ⟨j + (m + 1), by omega, (wk_at e (m + 1)).trans c⟩
theorem Cyc.back {l : List Pr} {x y : Int} (c : Cyc l x) (o : Orb l x y) : Orb l y x := by
  obtain ⟨n, o⟩ := o
  obtain ⟨j, hj, e⟩ := c.far n
  refine ⟨j - n, ?_⟩
  rw [← wk_at o, Nat.add_sub_cancel' hj]
  exact e
theorem Cyc.next {l : List Pr} {x y : Int} (c : Cyc l x) (o : Orb l x y) : ∃ z, lk l y = some z ∧ Orb l x z := by
  obtain ⟨n, e⟩ := o
  obtain ⟨j, hj, ej⟩ := c.far (n + 1)
  cases h : lk l y with
  | some z => exact ⟨z, rfl, Orb.next ⟨n, e⟩ h⟩
  | none =>
    exfalso
    have h1 : wk l x (n + 1) = none := by
      show (wk l x n).bind (lk l) = _
      rw [e]
      exact h
    obtain ⟨d, rfl⟩ : ∃ d, j = (n + 1) + d := ⟨j - (n + 1), by omega⟩
    rw [wk_add, h1] at ej
    cases ej
theorem Cyc.prev {l : List Pr} {x y : Int} (c : Cyc l x) (o : Orb l x y) : ∃ z, lk l z = some y ∧ Orb l x z := by
  have key : ∀ n, wk l x (n + 1) = some y → ∃ z, lk l z = some y ∧ Orb l x z := by
    intro n e
    have e : (wk l x n).bind (lk l) = some y := e
    cases h : wk l x n with
    | none => rw [h] at e; cases e
    | some z =>
      rw [h] at e
      exact ⟨z, e, n, h⟩
  obtain ⟨n, e⟩ := o
  cases n with
  | zero =>
    obtain rfl : x = y := Option.some.inj e
    obtain ⟨m, c⟩ := c
    exact key m c
  | succ n => exact key n e
theorem Cyc.at {l : List Pr} {x y : Int} (c : Cyc l x) (o : Orb l x y) : Cyc l y := by
  obtain ⟨z, h, oz⟩ := c.next o
  obtain ⟨n, e⟩ := (c.back oz).trans o
  refine ⟨n, ?_⟩
  have h1 : wk l y 1 = some z := h
  rw [Nat.add_comm, wk_at h1]
  exact e
theorem agree {l l' : List Pr} {x : Int} (h : ∀ y, Orb l x y → lk l' y = lk l y) : ∀ n, wk l' x n = wk l x n
  | 0 => rfl
  | n + 1 => by
    show (wk l' x n).bind (lk l') = (wk l x n).bind (lk l)
    rw [agree h n]
    cases e : wk l x n with
    | none => rfl
    | some y => exact h y ⟨n, e⟩
theorem orb_agree {l l' : List Pr} {x : Int} (h : ∀ y, Orb l x y → lk l' y = lk l y) (y : Int) : Orb l' x y ↔ Orb l x y := by
  unfold Orb
  simp only [agree h]
theorem cyc_agree {l l' : List Pr} {x : Int} (h : ∀ y, Orb l x y → lk l' y = lk l y) : Cyc l' x ↔ Cyc l x := by
  unfold Cyc
  simp only [agree h]
theorem lk_reAt (l : List Pr) (o n x : Int) : lk (reAt l o n) x = (lk l x).map fun y => if y = o then n else y := by
  unfold lk reAt
  rw [List.find?_map]
  rw [show (fun q : Pr => decide (q.1 = x)) ∘ (fun q : Pr => (q.1, if q.2 = o then n else q.2)) = fun q => decide (q.1 = x) from rfl]
  cases l.find? fun q => decide (q.1 = x) <;> rfl
theorem lk_off (l : List Pr) (a x : Int) : lk (off l a) x = if x = a then none else lk l x := by
  unfold lk off
  rw [List.find?_filter]
  by_cases e : x = a
  · rw [if_pos e, List.find?_eq_none.mpr]
    · rfl
    · intro q _
      subst e
      simp
  · rw [if_neg e]
    congr 2
    funext q
    by_cases h : q.1 = x
    · simp [h, e]
    · simp [h]
theorem hed_free {s : Int} {l : List Pr} {q : Pr} (L : Lf s l) (e : l.find? (isFree l) = some q) (x : Int) : Hed (reAt (off l q.1) q.2 q.1) x ↔ Hed l x := by
  obtain ⟨hq, nr⟩ := free_some e
  have ne := L.un q hq
  have lkq := lk_of L.nd hq
  have el : ∀ y, lk (reAt (off l q.1) q.2 q.1) y = if y = q.1 then none else (lk l y).map fun z => if z = q.2 then q.1 else z := by
    intro y
    rw [lk_reAt, lk_off]
    by_cases h : y = q.1
    · rw [if_pos h, if_pos h]
      rfl
    · rw [if_neg h, if_neg h]
  constructor
  · intro h
    -- in the new one
    have ag : ∀ y, Orb (reAt (off l q.1) q.2 q.1) x y → lk l y = lk (reAt (off l q.1) q.2 q.1) y := by
      intro y oy
      obtain ⟨z, hz, oz⟩ := h.cyc.next oy
      obtain ⟨w, hw, _⟩ := h.cyc.next oz
      have nz : z ≠ q.1 := fun h => by
        rw [el, if_pos h] at hw
        cases hw
      rw [hz]
      rw [el] at hz
      by_cases hy : y = q.1
      · rw [if_pos hy] at hz
        cases hz
      · rw [if_neg hy] at hz
        cases h3 : lk l y with
        | none => rw [h3] at hz; cases hz
        | some u =>
          rw [h3] at hz
          have hz : (if u = q.2 then q.1 else u) = z := Option.some.inj hz
          by_cases hu : u = q.2
          · rw [if_pos hu] at hz
            exact absurd hz.symm nz
          · rw [if_neg hu] at hz
            rw [hz]
    have nb : ¬ Orb (reAt (off l q.1) q.2 q.1) x q.2 := by
      intro o
      obtain ⟨z, hz, _⟩ := h.cyc.prev o
      rw [el] at hz
      by_cases hy : z = q.1
      · rw [if_pos hy] at hz
        cases hz
      · rw [if_neg hy] at hz
        cases h3 : lk l z with
        | none => rw [h3] at hz; cases hz
        | some u =>
          rw [h3] at hz
          have hz : (if u = q.2 then q.1 else u) = q.2 := Option.some.inj hz
          by_cases hu : u = q.2
          · rw [if_pos hu] at hz
            exact ne hz
          · rw [if_neg hu] at hz
            exact hu hz
    refine ⟨(cyc_agree ag).mpr h.cyc, fun p hp o => ?_, fun y o => h.least y ((orb_agree ag y).mp o)⟩
    have o := (orb_agree ag _).mp o
    refine (orb_agree ag _).mpr ?_
    have n1 : p.1 ≠ q.1 := fun e => by
      rw [same_pair L.nd hp hq e] at o
      exact nb o
    have n2 : p.2 ≠ q.2 := fun e => by
      rw [e] at o
      exact nb o
    refine h.lone p ?_ o
    refine List.mem_map.mpr ⟨p, mem_off.mpr ⟨hp, n1⟩, ?_⟩
    rw [if_neg n2]
  · intro h
    have na : ∀ y, Orb l x y → y ≠ q.1 := by
      rintro y o rfl
      obtain ⟨z, hz, _⟩ := h.cyc.prev o
      exact nr (List.mem_map.mpr ⟨_, lk_mem hz, rfl⟩)
    have nb : ¬ Orb l x q.2 := fun o => na _ (h.lone q hq o) rfl
    have ag : ∀ y, Orb l x y → lk (reAt (off l q.1) q.2 q.1) y = lk l y := by
      intro y oy
      obtain ⟨z, hz, oz⟩ := h.cyc.next oy
      rw [el, if_neg (na y oy), hz]
      show some (if z = q.2 then q.1 else z) = _
      rw [if_neg]
      rintro rfl
      exact nb oz
    refine ⟨(cyc_agree ag).mpr h.cyc, fun p hp o => ?_, fun y o => h.least y ((orb_agree ag y).mp o)⟩
    have o := (orb_agree ag _).mp o
    refine (orb_agree ag _).mpr ?_
    obtain ⟨u, hu, e1, e2⟩ := mem_reAt hp
    obtain ⟨hu, _⟩ := mem_off.mp hu
    rw [e1]
    rw [e2] at o
    by_cases z : u.2 = q.2
    · rw [if_pos z] at o
      exact absurd rfl (na _ o)
    · rw [if_neg z] at o
      exact h.lone u hu o
theorem hed_spare {s : Int} {p : Pr} {l : List Pr} (L : Lf s (p :: l)) (e : (p :: l).find? (isFree (p :: l)) = none) (x : Int) : Hed (reAt (p :: l) p.1 s) x ↔ Hed (p :: l) x ∧ ¬ Orb (p :: l) x p.1 := by
  obtain ⟨ns, L2, _⟩ := L.spare e
  have sp : s ∉ (p :: l).map (·.1) := L.sp
  have pp : p.1 ≠ s := fun h => sp (List.mem_map.mpr ⟨p, List.mem_cons_self .., h⟩)
  generalize p.1 = c at pp
  clear L2
  have nds := L.nd
  clear L e
  generalize p :: l = l at ns sp nds
  have el : ∀ y, lk (reAt l c s) y = (lk l y).map fun z => if z = c then s else z := fun y => lk_reAt l c s y
  have ls : lk l s = none := by
    cases h : lk l s with
    | none => rfl
    | some z => exact absurd (List.mem_map.mpr ⟨_, lk_mem h, rfl⟩) sp
  constructor
  · intro h
    have so : ∀ y, Orb (reAt l c s) x y → y ≠ s := by
      rintro y o rfl
      obtain ⟨z, hz, _⟩ := h.cyc.next o
      rw [el, ls] at hz
      cases hz
    have nc : ¬ Orb (reAt l c s) x c := by
      intro o
      obtain ⟨z, hz, _⟩ := h.cyc.prev o
      rw [el] at hz
      cases h3 : lk l z with
      | none => rw [h3] at hz; cases hz
      | some u =>
        rw [h3] at hz
        have hz : (if u = c then s else u) = c := Option.some.inj hz
        by_cases hu : u = c
        · rw [if_pos hu] at hz
          exact pp hz.symm
        · rw [if_neg hu] at hz
          exact hu hz
    have ag : ∀ y, Orb (reAt l c s) x y → lk l y = lk (reAt l c s) y := by
      intro y oy
      obtain ⟨z, hz, oz⟩ := h.cyc.next oy
      rw [hz]
      rw [el] at hz
      cases h3 : lk l y with
      | none => rw [h3] at hz; cases hz
      | some u =>
        rw [h3] at hz
        have hz : (if u = c then s else u) = z := Option.some.inj hz
        by_cases hu : u = c
        · rw [if_pos hu] at hz
          exact absurd hz.symm (so z oz)
        · rw [if_neg hu] at hz
          rw [hz]
    refine ⟨⟨(cyc_agree ag).mpr h.cyc, fun u hu o => ?_, fun y o => h.least y ((orb_agree ag y).mp o)⟩, fun o => nc ((orb_agree ag _).mp o)⟩
    have o := (orb_agree ag _).mp o
    refine (orb_agree ag _).mpr ?_
    have n2 : u.2 ≠ c := fun e => by
      rw [e] at o
      exact nc o
    refine h.lone u ?_ o
    refine List.mem_map.mpr ⟨u, hu, ?_⟩
    rw [if_neg n2]
  · rintro ⟨h, nc⟩
    have ag : ∀ y, Orb l x y → lk (reAt l c s) y = lk l y := by
      intro y oy
      obtain ⟨z, hz, oz⟩ := h.cyc.next oy
      rw [el, hz]
      show some (if z = c then s else z) = _
      rw [if_neg]
      rintro rfl
      exact nc oz
    refine ⟨(cyc_agree ag).mpr h.cyc, fun u hu o => ?_, fun y o => h.least y ((orb_agree ag y).mp o)⟩
    have o := (orb_agree ag _).mp o
    refine (orb_agree ag _).mpr ?_
    obtain ⟨v, hv, e1, e2⟩ := mem_reAt hu
    rw [e1]
    rw [e2] at o
    by_cases z : v.2 = c
    · rw [if_pos z] at o
      obtain ⟨w, hw, _⟩ := h.cyc.next o
      rw [ls] at hw
      cases hw
    · rw [if_neg z] at o
      exact h.lone v hv o
/-! ### where all firsts are read, each is on a ring -/
theorem pigeon : ∀ (N : List Int) (f : Nat → Int), (∀ i, i ≤ N.length → f i ∈ N) → ∃ i j, i < j ∧ f i = f j
  | [], f, h => by
    have := h 0 (Nat.le_refl _)
    cases this
  | a :: N, f, h => by
    by_cases ha : ∃ i j, i < j ∧ i ≤ N.length + 1 ∧ j ≤ N.length + 1 ∧ f i = a ∧ f j = a
    · obtain ⟨i, j, hij, _, _, e1, e2⟩ := ha
      exact ⟨i, j, hij, e1.trans e2.symm⟩
    · by_cases hb : ∃ k, k ≤ N.length + 1 ∧ f k = a
      · obtain ⟨k, hk, ek⟩ := hb
        have ih := pigeon N (fun i => if i < k then f i else f (i + 1)) fun i hi => by
          by_cases hik : i < k
          · rw [if_pos hik]
            rcases List.mem_cons.mp (h i (by simp only [List.length_cons]; omega)) with e | e
            · exact absurd ⟨i, k, hik, by omega, hk, e, ek⟩ ha
            · exact e
          · rw [if_neg hik]
            rcases List.mem_cons.mp (h (i + 1) (by simp only [List.length_cons]; omega)) with e | e
            · exact absurd ⟨k, i + 1, by omega, hk, by omega, ek, e⟩ ha
            · exact e
        obtain ⟨i, j, hij, e⟩ := ih
        by_cases h1 : i < k <;> by_cases h2 : j < k
        · rw [if_pos h1, if_pos h2] at e
          exact ⟨i, j, hij, e⟩
        · rw [if_pos h1, if_neg h2] at e
          exact ⟨i, j + 1, by omega, e⟩
        · omega
        · rw [if_neg h1, if_neg h2] at e
          exact ⟨i + 1, j + 1, by omega, e⟩
      · obtain ⟨i, j, hij, e⟩ := pigeon N f fun i hi => by
          rcases List.mem_cons.mp (h i (by simp only [List.length_cons]; omega)) with e | e
          · exact absurd ⟨i, by omega, e⟩ hb
          · exact e
        exact ⟨i, j, hij, e⟩
theorem least_of : ∀ (N : List Int) (P : Int → Prop), (∃ x ∈ N, P x) → ∃ m ∈ N, P m ∧ ∀ y ∈ N, P y → m ≤ y
  | [], P, h => by
    obtain ⟨x, hx, _⟩ := h
    cases hx
  | a :: N, P, h => by
    classical
    by_cases hN : ∃ x ∈ N, P x
    · obtain ⟨m, hm, pm, le⟩ := least_of N P hN
      by_cases ha : P a ∧ a ≤ m
      · refine ⟨a, List.mem_cons_self .., ha.1, fun y hy py => ?_⟩
        rcases List.mem_cons.mp hy with e | e
        · omega
        · have := le y e py
          omega
      · refine ⟨m, List.mem_cons_of_mem _ hm, pm, fun y hy py => ?_⟩
        rcases List.mem_cons.mp hy with e | e
        · subst e
          have : ¬ y ≤ m := fun z => ha ⟨py, z⟩
          omega
        · exact le y e py
    · obtain ⟨x, hx, px⟩ := h
      rcases List.mem_cons.mp hx with e | e
      · subst e
        refine ⟨x, hx, px, fun y hy py => ?_⟩
        rcases List.mem_cons.mp hy with e | e
        · omega
        · exact absurd ⟨y, e, py⟩ hN
      · exact absurd ⟨x, e, px⟩ hN
theorem all_cyc {s : Int} {l : List Pr} (L : Lf s l) (h : ∀ q ∈ l, q.1 ∈ l.map (·.2)) {c : Int} (hc : c ∈ l.map (·.1)) : Cyc l c := by
  have pm := all_read L h
  have nd2 : (l.map (·.2)).Nodup := pm.nodup_iff.mpr L.nd
  have tot : ∀ x, x ∈ l.map (·.1) → ∃ y, lk l x = some y ∧ y ∈ l.map (·.1) := by
    intro x hx
    obtain ⟨q, hq, rfl⟩ := List.mem_map.mp hx
    exact ⟨q.2, lk_of L.nd hq, pm.mem_iff.mp (List.mem_map.mpr ⟨q, hq, rfl⟩)⟩
  have all : ∀ n, ∃ y, wk l c n = some y ∧ y ∈ l.map (·.1) := by
    intro n
    induction n with
    | zero => exact ⟨c, rfl, hc⟩
    | succ n ih =>
      obtain ⟨y, e, hy⟩ := ih
      obtain ⟨z, e2, hz⟩ := tot y hy
      refine ⟨z, ?_, hz⟩
      show (wk l c n).bind (lk l) = _
      rw [e]
      exact e2
  have inj : ∀ x y z, lk l x = some z → lk l y = some z → x = y := by
    intro x y z h1 h2
    have m1 := lk_mem h1
    have m2 := lk_mem h2
    have same2 : ∀ {l : List Pr}, (l.map (·.2)).Nodup → ∀ {p q : Pr}, p ∈ l → q ∈ l → p.2 = q.2 → p = q := by
      intro l
      induction l with
      | nil => intro _ _ _ h; cases h
      | cons a l ih =>
        intro nd p q hp hq e
        have n2 := List.nodup_cons.mp nd
        rcases List.mem_cons.mp hp with h1 | h1 <;> rcases List.mem_cons.mp hq with h2 | h2
        · rw [h1, h2]
        · subst h1
          exact absurd (List.mem_map.mpr ⟨q, h2, e.symm⟩) n2.1
        · subst h2
          exact absurd (List.mem_map.mpr ⟨p, h1, e⟩) n2.1
        · exact ih n2.2 h1 h2 e
    have := same2 nd2 m1 m2 rfl
    exact congrArg Prod.fst this
  have back : ∀ i d, wk l c i = wk l c (i + d) → wk l c 0 = wk l c d := by
    intro i
    induction i with
    | zero => intro d e; rwa [Nat.zero_add] at e
    | succ i ih =>
      intro d e
      refine ih d ?_
      obtain ⟨a, ea, _⟩ := all i
      obtain ⟨b, eb, _⟩ := all (i + d)
      have e1 : wk l c (i + 1) = lk l a := by
        show (wk l c i).bind (lk l) = _
        rw [ea]
        rfl
      have e2 : wk l c (i + 1 + d) = lk l b := by
        rw [show i + 1 + d = (i + d) + 1 by omega]
        show (wk l c (i + d)).bind (lk l) = _
        rw [eb]
        rfl
      rw [e1, e2] at e
      obtain ⟨z, ez, _⟩ := tot a (by
        obtain ⟨a', ea', ha'⟩ := all i
        rw [ea] at ea'
        rw [Option.some.inj ea']
        exact ha')
      rw [ea, eb, inj a b z ez (e ▸ ez)]
  obtain ⟨i, j, hij, e⟩ := pigeon (l.map (·.1)) (fun n => (wk l c n).getD 0) fun i _ => by
    obtain ⟨y, e, hy⟩ := all i
    rw [e]
    exact hy
  obtain ⟨a, ea, _⟩ := all i
  obtain ⟨b, eb, _⟩ := all j
  have e : (wk l c i).getD 0 = (wk l c j).getD 0 := e
  rw [ea, eb] at e
  have e : a = b := e
  have := back i (j - i) (by rw [Nat.add_sub_cancel' (by omega), ea, eb, e])
  refine ⟨j - i - 1, ?_⟩
  rw [show j - i - 1 + 1 = j - i by omega, ← this]
  rfl
theorem hed_one {s : Int} {p : Pr} {l : List Pr} (L : Lf s (p :: l)) (e : (p :: l).find? (isFree (p :: l)) = none) : ∃ m, m ∈ (p :: l).map (·.1) ∧ Hed (p :: l) m ∧ Orb (p :: l) m p.1 ∧ ∀ x, Hed (p :: l) x → Orb (p :: l) x p.1 → x = m := by
  have rd := free_none e
  have hc : p.1 ∈ (p :: l).map (·.1) := List.mem_map.mpr ⟨p, List.mem_cons_self .., rfl⟩
  have cy := all_cyc L rd hc
  have cyA := fun (x : Int) (hx : x ∈ (p :: l).map (·.1)) => all_cyc L rd hx
  have pm := all_read L rd
  have nd2 : ((p :: l).map (·.2)).Nodup := pm.nodup_iff.mpr L.nd
  obtain ⟨m, hm, om, le⟩ := least_of ((p :: l).map (·.1)) (fun x => Orb (p :: l) p.1 x) ⟨p.1, hc, Orb.refl _ _⟩
  have inF : ∀ y, Orb (p :: l) p.1 y → y ∈ (p :: l).map (·.1) := by
    intro y o
    obtain ⟨z, hz, _⟩ := cy.next o
    exact List.mem_map.mpr ⟨_, lk_mem hz, rfl⟩
  have back := cy.back om
  refine ⟨m, hm, ⟨cy.at om, fun q hq o => ?_, fun y o => le y (inF y (om.trans o)) (om.trans o)⟩, back, fun x hx ox => ?_⟩
  · obtain ⟨z, hz, oz⟩ := (cy.at om).prev o
    have h1 := lk_mem hz
    have : (z, q.2) = q := by
      have same2 : ∀ {l : List Pr}, (l.map (·.2)).Nodup → ∀ {p q : Pr}, p ∈ l → q ∈ l → p.2 = q.2 → p = q := by
        intro l
        induction l with
        | nil => intro _ _ _ h; cases h
        | cons a l ih =>
          intro nd p q hp hq e
          have n2 := List.nodup_cons.mp nd
          rcases List.mem_cons.mp hp with h1 | h1 <;> rcases List.mem_cons.mp hq with h2 | h2
          · rw [h1, h2]
          · subst h1
            exact absurd (List.mem_map.mpr ⟨q, h2, e.symm⟩) n2.1
          · subst h2
            exact absurd (List.mem_map.mpr ⟨p, h1, e⟩) n2.1
          · exact ih n2.2 h1 h2 e
      exact same2 nd2 h1 hq rfl
    have h2 : z = q.1 := congrArg Prod.fst this
    rw [← h2]
    exact oz
  · have o1 : Orb (p :: l) p.1 x := hx.cyc.back ox
    have l1 := le x (inF x o1) o1
    have l2 := hx.least m (ox.trans om)
    omega
/-! ### how many lonely rings -/
open Classical in
noncomputable def hedB (l : List Pr) (x : Int) : Bool := decide (Hed l x)
theorem hedB_iff {l : List Pr} {x : Int} : hedB l x = true ↔ Hed l x := by
  unfold hedB
  exact ⟨fun h => @of_decide_eq_true _ (Classical.propDecidable _) h, fun h => @decide_eq_true _ (Classical.propDecidable _) h⟩
noncomputable def cnt (l : List Pr) : Nat := ((l.map (·.1)).filter (hedB l)).length
theorem drop_one {N : List Int} {P Q : Int → Bool} {m : Int} (nd : N.Nodup) (hm : m ∈ N) (pm : P m = true) (qm : Q m = true) (un : ∀ x, P x = true → Q x = true → x = m) : (N.filter fun x => P x && !Q x).length + 1 = (N.filter P).length := by
  have e : (N.filter fun x => P x && !Q x) = (N.filter P).erase m := by
    rw [(nd.sublist List.filter_sublist).erase_eq_filter, List.filter_filter]
    refine List.filter_congr fun x _ => ?_
    cases hp : P x with
    | false => simp
    | true =>
      cases hq : Q x with
      | false =>
        have : x ≠ m := by
          rintro rfl
          rw [hq] at qm
          cases qm
        simp [this]
      | true =>
        have := un x hp hq
        simp [this]
  have h1 : m ∈ N.filter P := List.mem_filter.mpr ⟨hm, pm⟩
  rw [e, List.length_erase_of_mem h1]
  have := List.length_pos_of_mem h1
  omega
theorem cnt_free {s : Int} {l : List Pr} {q : Pr} (L : Lf s l) (e : l.find? (isFree l) = some q) : cnt (reAt (off l q.1) q.2 q.1) = cnt l := by
  unfold cnt
  obtain ⟨hq, nr⟩ := free_some e
  have e1 : hedB (reAt (off l q.1) q.2 q.1) = hedB l := by
    funext x
    have := hed_free L e x
    rw [← hedB_iff, ← hedB_iff] at this
    cases h1 : hedB (reAt (off l q.1) q.2 q.1) x <;> cases h2 : hedB l x
    · rfl
    · rw [h1, h2] at this
      exact absurd (this.mpr rfl) (by decide)
    · rw [h1, h2] at this
      exact absurd (this.mp rfl) (by decide)
    · rfl
  rw [e1, reAt_fst]
  have e2 : (off l q.1).map (·.1) = (l.map (·.1)).filter fun x => !decide (x = q.1) := by
    unfold off
    rw [List.filter_map]
    rfl
  rw [e2, List.filter_filter]
  congr 1
  refine List.filter_congr fun x _ => ?_
  cases h : hedB l x with
  | false => rfl
  | true =>
    have hx := hedB_iff.mp h
    have : x ≠ q.1 := by
      rintro rfl
      obtain ⟨z, hz, _⟩ := hx.cyc.prev (Orb.refl _ _)
      exact nr (List.mem_map.mpr ⟨_, lk_mem hz, rfl⟩)
    simp [this]
theorem cnt_spare {s : Int} {p : Pr} {l : List Pr} (L : Lf s (p :: l)) (e : (p :: l).find? (isFree (p :: l)) = none) : cnt (reAt (p :: l) p.1 s) + 1 = cnt (p :: l) := by
  classical
  unfold cnt
  obtain ⟨m, hm, hh, om, un⟩ := hed_one L e
  have := drop_one (N := (p :: l).map (·.1)) (P := hedB (p :: l)) (Q := fun x => decide (Orb (p :: l) x p.1)) L.nd hm (hedB_iff.mpr hh) (decide_eq_true om) (fun x h1 h2 => un x (hedB_iff.mp h1) (of_decide_eq_true h2))
  rw [← this, reAt_fst]
  congr 2
  refine List.filter_congr fun x _ => ?_
  have hs := hed_spare L e x
  by_cases h : Hed (reAt (p :: l) p.1 s) x
  · have h2 := hs.mp h
    rw [hedB_iff.mpr h, hedB_iff.mpr h2.1, decide_eq_false h2.2]
    rfl
  · have h3 : hedB (reAt (p :: l) p.1 s) x = false := by
      cases z : hedB (reAt (p :: l) p.1 s) x with
      | false => rfl
      | true => exact absurd (hedB_iff.mp z) h
    rw [h3]
    by_cases h1 : Hed (p :: l) x
    · have h2 : Orb (p :: l) x p.1 := Classical.byContradiction fun z => h (hs.mpr ⟨h1, z⟩)
      rw [decide_eq_true h2]
      simp
    · have h4 : hedB (p :: l) x = false := by
        cases z : hedB (p :: l) x with
        | false => rfl
        | true => exact absurd (hedB_iff.mp z) h1
      rw [h4]
      rfl
theorem run_len {s : Int} : ∀ (n : Nat) (l : List Pr), Lf s l → left l ≤ n + 1 → (runM s n l).1.length = l.length + cnt l
  | n, [], _, _ => by
    have : runM s n [] = ([], []) := by cases n <;> rfl
    rw [this]
    rfl
  | 0, p :: l, L, b => by
    unfold left at b
    simp only [List.length_cons] at b
    omega
  | n + 1, p :: l, L, b => by
    have less := step_less L
    have ih := run_len n (stepM s (p :: l)).2 (step_lf L) (by omega)
    show (runM s n (stepM s (p :: l)).2).1.length + 1 = _
    rw [ih]
    cases e : (p :: l).find? (isFree (p :: l)) with
    | some q =>
      rw [step_some e]
      show (reAt (off (p :: l) q.1) q.2 q.1).length + cnt (reAt (off (p :: l) q.1) q.2 q.1) + 1 = _
      rw [cnt_free L e]
      have h1 : (reAt (off (p :: l) q.1) q.2 q.1).length = (off (p :: l) q.1).length := List.length_map ..
      have h2 : (off (p :: l) q.1).length + 1 = (p :: l).length := by
        have m := (free_some e).1
        obtain ⟨k, hk⟩ := List.getElem?_of_mem m
        have lk := (List.getElem?_eq_some_iff.mp hk).1
        rw [off_at L.nd hk, List.length_append, List.length_take, List.length_drop]
        omega
      omega
    | none =>
      rw [step_none e]
      show (reAt (p :: l) p.1 s).length + cnt (reAt (p :: l) p.1 s) + 1 = _
      have h1 : (reAt (p :: l) p.1 s).length = (p :: l).length := List.length_map ..
      have h2 := cnt_spare L e
      omega
theorem rule_len {s : Int} {l : List Pr} (L : Lf s l) : (ruleM s l).length = l.length + cnt l := run_len _ _ L (by omega)
end Cb
set_option Elab.async false
set_option linter.all false
set_option maxRecDepth 100000
set_option maxHeartbeats 4000000
namespace Cb
open PySem PySem.Spec PyProof.Rows L2
/-! ### rings written out -/
theorem sub_len : ∀ {F L : List Int}, F.Nodup → (∀ x ∈ F, x ∈ L) → F.length ≤ L.length
  | [], _, _, _ => Nat.zero_le _
  | a :: F, L, n, s => by
    have n2 := List.nodup_cons.mp n
    have ha := s a (List.mem_cons_self ..)
    have := sub_len (F := F) (L := L.erase a) n2.2 fun x hx => (List.mem_erase_of_ne fun (e : x = a) => n2.1 (e ▸ hx)).mpr (s x (List.mem_cons_of_mem _ hx))
    rw [List.length_erase_of_mem ha] at this
    have := List.length_pos_of_mem ha
    simp only [List.length_cons]
    omega
def lawGo (l : List Pr) : Nat → Int → List Int → List Int
  | 0, _, R => R
  | n + 1, x, R => match lk l x with
    | none => R
    | some y => if y ∈ R then R else lawGo l n y (R ++ [y])
structure Tr (l : List Pr) (x : Int) (R : List Int) : Prop where
  ne : R ≠ []
  nd : R.Nodup
  at_ : ∀ i y, R[i]? = some y → wk l x i = some y
structure Done (l : List Pr) (x : Int) (R : List Int) : Prop extends Tr l x R where
  fin : ∀ y, wk l x R.length = some y → y ∈ R
theorem Tr.len {l : List Pr} {x : Int} {R : List Int} (t : Tr l x R) : R.length ≤ l.length + 1 := by
  have h : ∀ y ∈ R.take (R.length - 1), y ∈ l.map (·.1) := by
    intro y hy
    obtain ⟨i, hi⟩ := List.getElem?_of_mem hy
    have li := (List.getElem?_eq_some_iff.mp hi).1
    rw [List.length_take] at li
    rw [List.getElem?_take, if_pos (by omega)] at hi
    have a := t.at_ i y hi
    have b := t.at_ (i + 1) R[i + 1] (List.getElem?_eq_getElem (by omega))
    have b : (wk l x i).bind (lk l) = _ := b
    rw [a] at b
    exact List.mem_map.mpr ⟨_, lk_mem b, rfl⟩
  have := sub_len (t.nd.sublist (List.take_sublist _ _)) h
  rw [List.length_take, List.length_map] at this
  omega
theorem Tr.one (l : List Pr) (x : Int) : Tr l x [x] := ⟨by simp, by simp, fun i y h => by
  cases i with
  | zero => simpa [wk] using h
  | succ i => simp at h⟩
theorem Tr.snoc {l : List Pr} {x y : Int} {R : List Int} (t : Tr l x R) (h : wk l x R.length = some y) (n : y ∉ R) : Tr l x (R ++ [y]) := by
  refine ⟨by simp, ?_, fun i z hz => ?_⟩
  · rw [List.nodup_append]
    refine ⟨t.nd, by simp, fun a ha b hb => ?_⟩
    rintro rfl
    exact n ((List.mem_singleton.mp hb) ▸ ha)
  · by_cases hi : i < R.length
    · rw [List.getElem?_append_left hi] at hz
      exact t.at_ i z hz
    · rw [List.getElem?_append_right (by omega)] at hz
      have h0 : i - R.length = 0 := by
        have := (List.getElem?_eq_some_iff.mp hz).1
        simp at this
        omega
      rw [h0] at hz
      obtain rfl : y = z := by simpa using hz
      rw [show i = R.length by omega]
      exact h
theorem law_done {l : List Pr} {x : Int} : ∀ (n : Nat) (z : Int) (R : List Int), Tr l x R → wk l x (R.length - 1) = some z → l.length + 2 ≤ R.length + n → Done l x (lawGo l n z R)
  | 0, z, R, t, hz, b => by
    have := t.len
    omega
  | n + 1, z, R, t, hz, b => by
    have lp := List.length_pos_iff.mpr t.ne
    have e : wk l x R.length = lk l z := by
      rw [show R.length = (R.length - 1) + 1 by omega]
      show (wk l x (R.length - 1)).bind (lk l) = _
      rw [hz]
      rfl
    unfold lawGo
    cases h : lk l z with
    | none => exact ⟨t, fun y hy => by rw [e, h] at hy; cases hy⟩
    | some y =>
      show Done l x (if y ∈ R then R else lawGo l n y (R ++ [y]))
      by_cases m : y ∈ R
      · rw [if_pos m]
        refine ⟨t, fun u hu => ?_⟩
        rw [e, h] at hu
        rw [← Option.some.inj hu]
        exact m
      · rw [if_neg m]
        refine law_done n y _ (t.snoc (e.trans h) m) ?_ ?_
        · rw [List.length_append, List.length_singleton, Nat.add_sub_cancel]
          exact e.trans h
        · rw [List.length_append, List.length_singleton]
          omega
/-- the ring from x, as the law draws it -/
def ringL (l : List Pr) (x : Int) : List Int := lawGo l (l.length + 1) x [x]
theorem ringL_done (l : List Pr) (x : Int) : Done l x (ringL l x) := law_done _ _ _ (Tr.one l x) rfl (by simp; omega)
section
variable {l : List Pr} {x : Int} {R : List Int}
theorem Done.get (d : Done l x R) {i : Nat} (h : i < R.length) : wk l x i = some R[i] := d.at_ i _ (List.getElem?_eq_getElem h)
theorem Done.closed (d : Done l x R) {i : Nat} (hi : i < R.length) {y : Int} (hy : wk l x R.length = some y) (e : wk l x i = some y) : ∀ t, ∃ j, i ≤ j ∧ j < R.length ∧ wk l x (i + t) = wk l x j
  | 0 => ⟨i, Nat.le_refl _, hi, rfl⟩
  | t + 1 => by
    obtain ⟨j, h1, h2, h3⟩ := Done.closed d hi hy e t
    have s1 : wk l x (i + (t + 1)) = wk l x (j + 1) := by
      show (wk l x (i + t)).bind (lk l) = (wk l x j).bind (lk l)
      rw [h3]
    by_cases h4 : j + 1 < R.length
    · exact ⟨j + 1, by omega, h4, s1⟩
    · have h5 : j + 1 = R.length := by omega
      exact ⟨i, Nat.le_refl _, hi, by rw [s1, h5, hy, e]⟩
theorem Done.pos (d : Done l x R) : 0 < R.length := List.length_pos_iff.mpr d.ne
theorem Done.zero (d : Done l x R) : R[0]'d.pos = x := (Option.some.inj (d.get d.pos)).symm
theorem Done.inj (d : Done l x R) {i j : Nat} (hi : i < R.length) (hj : j < R.length) (e : wk l x i = wk l x j) : i = j := by
  rw [d.get hi, d.get hj] at e
  have e := Option.some.inj e
  rcases Nat.lt_trichotomy i j with h | h | h
  · exact absurd e (List.pairwise_iff_getElem.mp d.nd i j hi hj h)
  · exact h
  · exact absurd e.symm (List.pairwise_iff_getElem.mp d.nd j i hj hi h)
theorem Done.cyc (d : Done l x R) : Cyc l x ↔ wk l x R.length = some x := by
  have lp := d.pos
  constructor
  · intro c
    obtain ⟨j, hj, ej⟩ := c.far (R.length + 1)
    cases h : wk l x R.length with
    | none =>
      exfalso
      obtain ⟨t, rfl⟩ : ∃ t, j = R.length + t := ⟨j - R.length, by omega⟩
      rw [wk_add, h] at ej
      cases ej
    | some y =>
      obtain ⟨i, hi⟩ := List.getElem?_of_mem (d.fin y h)
      have li := (List.getElem?_eq_some_iff.mp hi).1
      have ei := d.at_ i y hi
      obtain ⟨k, k1, k2, k3⟩ := d.closed li h ei (j - i)
      rw [show i + (j - i) = j by omega, ej] at k3
      have : k = 0 := d.inj k2 lp (k3.symm.trans rfl)
      have i0 : i = 0 := by omega
      rw [i0] at ei
      have ei : some x = some y := ei
      rw [ei]
  · intro h
    refine ⟨R.length - 1, ?_⟩
    rw [show R.length - 1 + 1 = R.length by omega]
    exact h
theorem Done.orb (d : Done l x R) (c : Cyc l x) (y : Int) : Orb l x y ↔ y ∈ R := by
  have hc := d.cyc.mp c
  constructor
  · rintro ⟨n, e⟩
    obtain ⟨j, _, h2, h3⟩ := d.closed d.pos hc rfl n
    rw [Nat.zero_add, e] at h3
    rw [d.get h2] at h3
    rw [Option.some.inj h3]
    exact List.getElem_mem h2
  · intro m
    obtain ⟨i, hi⟩ := List.getElem?_of_mem m
    exact ⟨i, d.at_ i y hi⟩
theorem Done.le (d : Done l x R) (c : Cyc l x) : R.length ≤ l.length := by
  have h : ∀ y ∈ R, y ∈ l.map (·.1) := by
    intro y hy
    obtain ⟨z, hz, _⟩ := c.next ((d.orb c y).mpr hy)
    exact List.mem_map.mpr ⟨_, lk_mem hz, rfl⟩
  have := sub_len d.nd h
  rwa [List.length_map] at this
/-- the program's walk of a ring -/
theorem go_cyc (d : Done l x R) (c : Cyc l x) : ∀ (m k n : Nat) (y : Int), R.length = k + m → 0 < k → m < n → wk l x k = some y → ringGo l x n y (R.take k) = some R
  | m, k, 0, y, _, _, h, _ => absurd h (Nat.not_lt_zero _)
  | 0, k, n + 1, y, e, k0, _, hy => by
    have hc := d.cyc.mp c
    have ek : k = R.length := by omega
    subst ek
    rw [hy] at hc
    unfold ringGo
    rw [if_pos (Option.some.inj hc), List.take_length]
  | m + 1, k, n + 1, y, e, k0, hn, hy => by
    have kl : k < R.length := by omega
    have ne : y ≠ x := by
      rintro rfl
      have : k = 0 := d.inj kl d.pos (hy.trans rfl)
      omega
    obtain ⟨z, hz, _⟩ := c.next ⟨k, hy⟩
    have lr := d.le c
    have tl : (R.take k).length = k := by rw [List.length_take]; omega
    unfold ringGo
    rw [if_neg ne, hz]
    show (if l.length < (R.take k).length then none else ringGo l x n z (R.take k ++ [y])) = _
    rw [tl, if_neg (by omega)]
    have e2 : R.take k ++ [y] = R.take (k + 1) := by
      have := d.get kl
      rw [hy] at this
      rw [List.take_add_one, List.getElem?_eq_getElem kl, ← Option.some.inj this]
      rfl
    rw [e2]
    refine go_cyc d c m (k + 1) n z (by omega) (by omega) (by omega) ?_
    show (wk l x k).bind (lk l) = _
    rw [hy]
    exact hz
theorem go_none (c : ¬ Cyc l x) : ∀ (n k : Nat) (y : Int) (F : List Int), wk l x (k + 1) = some y → ringGo l x n y F = none
  | 0, _, _, _, _ => rfl
  | n + 1, k, y, F, hy => by
    have ne : y ≠ x := by
      rintro rfl
      exact c ⟨k, hy⟩
    unfold ringGo
    rw [if_neg ne]
    cases h : lk l y with
    | none => rfl
    | some z =>
      show (if l.length < F.length then none else ringGo l x n z (F ++ [y])) = none
      by_cases hl : l.length < F.length
      · rw [if_pos hl]
      · rw [if_neg hl]
        refine go_none c n (k + 1) z _ ?_
        show (wk l x (k + 1)).bind (lk l) = _
        rw [hy]
        exact h
theorem ring_go {y0 : Int} (h0 : lk l x = some y0) : (Cyc l x → ringGo l x (l.length + 2) y0 [x] = some (ringL l x)) ∧ (¬ Cyc l x → ringGo l x (l.length + 2) y0 [x] = none) := by
  have w1 : wk l x 1 = some y0 := h0
  refine ⟨fun c => ?_, fun c => go_none c _ 0 y0 _ w1⟩
  have d := ringL_done l x
  have lr := d.le c
  have lp := d.pos
  have e : [x] = (ringL l x).take 1 := by
    have z : (ringL l x)[0]? = some x := by rw [List.getElem?_eq_getElem lp, d.zero]
    generalize ringL l x = R at z
    cases R with
    | nil => cases z
    | cons a R =>
      have z : a = x := Option.some.inj z
      rw [z]
      rfl
  rw [e]
  exact go_cyc d c ((ringL l x).length - 1) 1 _ y0 (by omega) (by omega) (by omega) w1
/-! ### nothing else reads it: as the program asks, as the law asks -/
theorem Done.pre (d : Done l x R) (c : Cyc l x) {y : Int} (hy : y ∈ R) : ∃ z ∈ R, (z, y) ∈ l := by
  obtain ⟨z, hz, oz⟩ := c.prev ((d.orb c y).mpr hy)
  exact ⟨z, (d.orb c z).mp oz, lk_mem hz⟩
theorem count_map (l : List Pr) (y : Int) : (l.map (·.2)).count y = (l.filter fun p => decide (p.2 = y)).length := by
  induction l with
  | nil => rfl
  | cons p l ih =>
    rw [List.map_cons, List.count_cons, ih]
    by_cases h : p.2 = y
    · rw [List.filter_cons_of_pos (by simpa using h)]
      simp [h]
    · rw [List.filter_cons_of_neg (by simpa using h)]
      simp [h]
theorem Done.ones (d : Done l x R) (c : Cyc l x) (nd : (l.map (·.1)).Nodup) : (∀ y ∈ R, (l.map (·.2)).count y = 1) ↔ ∀ p ∈ l, Orb l x p.2 → Orb l x p.1 := by
  constructor
  · intro h p hp o
    have m := (d.orb c _).mp o
    obtain ⟨z, hz, hl⟩ := d.pre c m
    have one := h _ m
    rw [count_map] at one
    have m1 : p ∈ l.filter fun q => decide (q.2 = p.2) := List.mem_filter.mpr ⟨hp, by simp⟩
    have m2 : (z, p.2) ∈ l.filter fun q => decide (q.2 = p.2) := List.mem_filter.mpr ⟨hl, by simp⟩
    generalize l.filter (fun q => decide (q.2 = p.2)) = F at one m1 m2
    match F, one with
    | [a], _ =>
      have e1 := List.mem_singleton.mp m1
      have e2 := List.mem_singleton.mp m2
      rw [e1, ← e2]
      exact (d.orb c _).mpr hz
  · intro h y hy
    obtain ⟨z, hz, hl⟩ := d.pre c hy
    rw [count_map]
    -- each reader is (z, y)
    have un : ∀ p ∈ l, p.2 = y → p = (z, y) := by
      intro p hp e
      have o : Orb l x p.2 := (d.orb c _).mpr (e ▸ hy)
      have m1 := (d.orb c _).mp (h p hp o)
      obtain ⟨i, hi⟩ := List.getElem?_of_mem m1
      obtain ⟨j, hj⟩ := List.getElem?_of_mem hz
      have li := (List.getElem?_eq_some_iff.mp hi).1
      have lj := (List.getElem?_eq_some_iff.mp hj).1
      have wi := d.at_ i _ hi
      have wj := d.at_ j _ hj
      have ni : wk l x (i + 1) = some y := by
        show (wk l x i).bind (lk l) = _
        rw [wi, ← e]
        exact lk_of nd hp
      have nj : wk l x (j + 1) = some y := by
        show (wk l x j).bind (lk l) = _
        rw [wj]
        exact lk_of nd hl
      have hc := d.cyc.mp c
      have : i = j := by
        by_cases h1 : i + 1 < R.length <;> by_cases h2 : j + 1 < R.length
        · have := d.inj h1 h2 (ni.trans nj.symm)
          omega
        · have h3 : j + 1 = R.length := by omega
          rw [h3, hc] at nj
          have := d.inj h1 d.pos (ni.trans nj.symm)
          omega
        · have h3 : i + 1 = R.length := by omega
          rw [h3, hc] at ni
          have := d.inj h2 d.pos (nj.trans ni.symm)
          omega
        · omega
      subst this
      rw [wi] at wj
      exact same_pair nd hp hl (Option.some.inj wj)
    have ndl : l.Nodup := List.Pairwise.of_map (·.1) (fun a b h e => h (congrArg _ e)) nd
    have nf := ndl.sublist (List.filter_sublist (p := fun p : Pr => decide (p.2 = y)))
    have m2 : (z, y) ∈ l.filter fun q => decide (q.2 = y) := List.mem_filter.mpr ⟨hl, by simp⟩
    have all : ∀ p ∈ l.filter fun q => decide (q.2 = y), p = (z, y) := fun p hp => un p (List.mem_filter.mp hp).1 (by simpa using (List.mem_filter.mp hp).2)
    generalize l.filter (fun q => decide (q.2 = y)) = F at nf m2 all
    match F, nf, m2, all with
    | [a], _, _, _ => rfl
    | a :: b :: r, nf, _, all =>
      have e1 := all a (List.mem_cons_self ..)
      have e2 := all b (List.mem_cons_of_mem _ (List.mem_cons_self ..))
      exact absurd (List.mem_cons_self ..) (e1.trans e2.symm ▸ (List.nodup_cons.mp nf).1)
theorem Done.readers (d : Done l x R) (c : Cyc l x) (nd : (l.map (·.1)).Nodup) : (((l.map (·.1)).filter fun o => decide (((lk l o).getD 0) ∈ R)).length = R.length) ↔ ∀ p ∈ l, Orb l x p.2 → Orb l x p.1 := by
  have nf := nd.sublist (List.filter_sublist (p := fun o : Int => decide (((lk l o).getD 0) ∈ R)))
  have sub : ∀ y ∈ R, y ∈ (l.map (·.1)).filter fun o => decide (((lk l o).getD 0) ∈ R) := by
    intro y hy
    obtain ⟨z, hz, oz⟩ := c.next ((d.orb c y).mpr hy)
    refine List.mem_filter.mpr ⟨List.mem_map.mpr ⟨_, lk_mem hz, rfl⟩, ?_⟩
    rw [hz]
    exact decide_eq_true ((d.orb c z).mp oz)
  have l1 := sub_len d.nd sub
  constructor
  · intro e p hp o
    have m := (d.orb c _).mp o
    have mp : p.1 ∈ (l.map (·.1)).filter fun o => decide (((lk l o).getD 0) ∈ R) := by
      refine List.mem_filter.mpr ⟨List.mem_map.mpr ⟨p, hp, rfl⟩, ?_⟩
      rw [lk_of nd hp]
      exact decide_eq_true m
    refine (d.orb c _).mpr (Classical.byContradiction fun n => ?_)
    have := sub_len (F := p.1 :: R) (List.nodup_cons.mpr ⟨n, d.nd⟩) (L := (l.map (·.1)).filter fun o => decide (((lk l o).getD 0) ∈ R)) fun y hy => by
      rcases List.mem_cons.mp hy with h | h
      · rw [h]
        exact mp
      · exact sub y h
    rw [List.length_cons] at this
    omega
  · intro h
    have := sub_len nf (L := R) fun y hy => by
      obtain ⟨h1, h2⟩ := List.mem_filter.mp hy
      obtain ⟨p, hp, rfl⟩ := List.mem_map.mp h1
      rw [lk_of nd hp] at h2
      exact (d.orb c _).mp (h p hp ((d.orb c _).mpr (of_decide_eq_true h2)))
    omega
end
/-- which first heads a lonely ring, as it is asked -/
theorem hed_asked {l : List Pr} {x : Int} (nd : (l.map (·.1)).Nodup) : Hed l x ↔ Cyc l x ∧ (∀ y ∈ ringL l x, x ≤ y) ∧ ∀ p ∈ l, Orb l x p.2 → Orb l x p.1 := by
  have d := ringL_done l x
  constructor
  · intro h
    exact ⟨h.cyc, fun y hy => h.least y ((d.orb h.cyc y).mpr hy), h.lone⟩
  · rintro ⟨c, le, lo⟩
    exact ⟨c, lo, fun y o => le y ((d.orb c y).mp o)⟩
/-! ### one order -/
theorem rise_one : ∀ {xs ys : List Int}, xs.Pairwise (· < ·) → ys.Pairwise (· < ·) → (∀ x, x ∈ xs ↔ x ∈ ys) → xs = ys
  | [], [], _, _, _ => rfl
  | [], y :: ys, _, _, h => absurd ((h y).mpr (List.mem_cons_self ..)) (by simp)
  | x :: xs, [], _, _, h => absurd ((h x).mp (List.mem_cons_self ..)) (by simp)
  | x :: xs, y :: ys, a, b, h => by
    have a2 := List.pairwise_cons.mp a
    have b2 := List.pairwise_cons.mp b
    have e : x = y := by
      have h1 := (h x).mp (List.mem_cons_self ..)
      have h2 := (h y).mpr (List.mem_cons_self ..)
      rcases List.mem_cons.mp h1 with h1 | h1
      · exact h1
      · rcases List.mem_cons.mp h2 with h2 | h2
        · exact h2.symm
        · have := a2.1 y h2
          have := b2.1 x h1
          omega
    subst e
    rw [rise_one a2.2 b2.2 fun z => ?_]
    constructor
    · intro hz
      rcases List.mem_cons.mp ((h z).mp (List.mem_cons_of_mem _ hz)) with e | e
      · subst e
        exact absurd (a2.1 z hz) (by omega)
      · exact e
    · intro hz
      rcases List.mem_cons.mp ((h z).mpr (List.mem_cons_of_mem _ hz)) with e | e
      · subst e
        exact absurd (b2.1 z hz) (by omega)
      · exact e
/-- the firsts, as they rise -/
def putI (x : Int) : List Int → List Int
  | [] => [x]
  | y :: ys => if x < y then x :: y :: ys else y :: putI x ys
def srtI : List Int → List Int
  | [] => []
  | x :: xs => putI x (srtI xs)
theorem mem_putI {x z : Int} : ∀ {ys : List Int}, z ∈ putI x ys ↔ z = x ∨ z ∈ ys
  | [] => by simp [putI]
  | y :: ys => by
    unfold putI
    by_cases h : x < y
    · rw [if_pos h]
      exact List.mem_cons
    · rw [if_neg h, List.mem_cons, mem_putI, List.mem_cons]
      constructor <;> intro h <;> rcases h with h | h | h <;> simp [h]
theorem rise_putI {x : Int} : ∀ {ys : List Int}, ys.Pairwise (· < ·) → x ∉ ys → (putI x ys).Pairwise (· < ·)
  | [], _, _ => by simp [putI]
  | y :: ys, h, n => by
    have h2 := List.pairwise_cons.mp h
    unfold putI
    by_cases e : x < y
    · rw [if_pos e]
      refine List.pairwise_cons.mpr ⟨fun z hz => ?_, h⟩
      rcases List.mem_cons.mp hz with hz | hz
      · omega
      · have := h2.1 z hz
        omega
    · rw [if_neg e]
      have nx : x ≠ y := fun z => n (z ▸ List.mem_cons_self ..)
      refine List.pairwise_cons.mpr ⟨fun z hz => ?_, rise_putI h2.2 fun z => n (List.mem_cons_of_mem _ z)⟩
      rcases mem_putI.mp hz with hz | hz
      · omega
      · exact h2.1 z hz
theorem mem_srtI {z : Int} : ∀ {xs : List Int}, z ∈ srtI xs ↔ z ∈ xs
  | [] => Iff.rfl
  | x :: xs => by
    show z ∈ putI x (srtI xs) ↔ _
    rw [mem_putI, mem_srtI, List.mem_cons]
theorem rise_srtI : ∀ {xs : List Int}, xs.Nodup → (srtI xs).Pairwise (· < ·)
  | [], _ => List.Pairwise.nil
  | x :: xs, n => by
    have n2 := List.nodup_cons.mp n
    exact rise_putI (rise_srtI n2.2) fun h => n2.1 (mem_srtI.mp h)
theorem srt_is {xs ys : List Int} (n : xs.Nodup) (r : ys.Pairwise (· < ·)) (h : ∀ z, z ∈ ys ↔ z ∈ xs) : ys = srtI xs := rise_one r (rise_srtI n) fun z => (h z).trans mem_srtI.symm
theorem srt_perm {xs : List Int} (n : xs.Nodup) : (srtI xs).Perm xs := by
  have put : ∀ (x : Int) (ys : List Int), (putI x ys).Perm (x :: ys) := by
    intro x ys
    induction ys with
    | nil => exact List.Perm.refl _
    | cons y ys ih =>
      unfold putI
      by_cases h : x < y
      · rw [if_pos h]
      · rw [if_neg h]
        exact (ih.cons y).trans (List.Perm.swap ..)
  clear n
  induction xs with
  | nil => exact List.Perm.refl _
  | cons x xs ih => exact (put x _).trans (ih.cons x)
/-- the lonely rings, by their least -/
noncomputable def ringsM (l : List Pr) : List (List Int) := ((srtI (l.map (·.1))).filter (hedB l)).map (ringL l)
theorem rings_cnt {l : List Pr} (nd : (l.map (·.1)).Nodup) : (ringsM l).length = cnt l := by
  unfold ringsM cnt
  rw [List.length_map]
  exact ((srt_perm nd).filter _).length_eq
end Cb
set_option Elab.async false
set_option linter.all false
set_option maxRecDepth 100000
set_option maxHeartbeats 4000000
namespace Cb
open PySem PySem.Spec PyProof.Rows L2
def entries (row : List Pr) : List Int := (row.map fun p => [p.1, p.2]).flatten
theorem mem_entries {row : List Pr} {x : Int} : x ∈ entries row ↔ ∃ p ∈ row, p.1 = x ∨ p.2 = x := by
  unfold entries
  rw [List.mem_flatten]
  constructor
  · rintro ⟨l, hl, hx⟩
    obtain ⟨p, hp, rfl⟩ := List.mem_map.mp hl
    simp only [List.mem_cons, List.not_mem_nil, or_false] at hx
    exact ⟨p, hp, by rcases hx with rfl | rfl <;> simp⟩
  · rintro ⟨p, hp, h⟩
    exact ⟨_, List.mem_map.mpr ⟨p, hp, rfl⟩, by rcases h with rfl | rfl <;> simp⟩
theorem walk_out {x : Int} : ∀ {row : List Pr} {f : Int → Int}, (∀ p ∈ row, ¬ p.1 = x) → walkF row f x = f x
  | [], _, _ => rfl
  | p :: row, f, h => by
    show walkF row (upF f p.1 (f p.2)) x = f x
    rw [walk_out fun q hq => h q (List.mem_cons_of_mem _ hq), upF, if_neg fun e => h p (List.mem_cons_self ..) e.symm]
theorem told_out {x : Int} {ps : List Pr} (h : ∀ p ∈ ps, ¬ p.1 = x) : toldF ps x = x := by
  unfold toldF
  rw [List.find?_eq_none.mpr fun p hp => by simpa using h p hp]
  rfl
/-! ### a dict of what is held -/
def hk (ns : List Int) (f : Int → Int) : List (Key × V) := ns.map fun r => (Sum.inl r, .int (f r))
theorem hk_val {f : Int → Int} {b : Int} : ∀ {ns : List Int}, b ∈ ns → valV (hk ns f) (Sum.inl b) = some (.int (f b))
  | n :: ns, h => by
    show valV ((Sum.inl n, V.int (f n)) :: hk ns f) (Sum.inl b) = _
    by_cases e : n = b
    · rw [valV_pos (congrArg Sum.inl e), e]
    · rw [valV_neg fun z => e (Sum.inl.inj z), hk_val ((List.mem_cons.mp h).resolve_left fun z => e z.symm)]
theorem hk_put {ns : List Int} {f : Int → Int} {a b : Int} (h : a ∈ ns) : putK (hk ns f) (Sum.inl a) (.int b) = hk ns (upF f a b) := by
  unfold putK
  rw [if_pos]
  · unfold hk
    rw [List.map_map]
    refine List.map_congr_left fun n _ => ?_
    show (if (Sum.inl n : Key) = Sum.inl a then ((Sum.inl n : Key), V.int b) else (Sum.inl n, V.int (f n))) = (Sum.inl n, V.int (upF f a b n))
    by_cases e : n = a
    · rw [if_pos (congrArg Sum.inl e), upF, if_pos e]
    · rw [if_neg fun z => e (Sum.inl.inj z), upF, if_neg e]
  · refine List.any_eq_true.mpr ⟨(Sum.inl a, .int (f a)), List.mem_map.mpr ⟨a, h, rfl⟩, ?_⟩
    simp
theorem hk_nd {ns : List Int} {f : Int → Int} (h : ns.Nodup) : ((hk ns f).map (·.1)).Nodup := by
  have e : (hk ns f).map (·.1) = ns.map (Sum.inl (β := Str)) := by
    unfold hk
    rw [List.map_map]
    rfl
  rw [e]
  exact List.Pairwise.map _ (fun a b (ne : a ≠ b) z => ne (Sum.inl.inj z)) h
theorem hk_merge {ns : List Int} {f : Int → Int} (h : ns.Nodup) : mergeK [] (hk ns f) = hk ns f := by
  rw [mergeK_nd _ [] (by simpa using hk_nd h)]
  rfl
theorem filter_take' {α : Type} {xs : List α} {f : α → Bool} {i : Nat} {d : α} (h : xs[i]? = some d) : (xs.take (i + 1)).filter f = (xs.take i).filter f ++ (if f d = true then [d] else []) := by
  rw [List.take_add_one, h, List.filter_append]
  show _ ++ List.filter f [d] = _
  by_cases e : f d = true
  · rw [if_pos e, List.filter_cons_of_pos e, List.filter_nil]
  · rw [if_neg e, List.filter_cons_of_neg e, List.filter_nil]
theorem eqv_nil (ds : List PyData) : PyData.eqv (.list ds) (.list []) = ds.isEmpty := by
  cases ds with
  | nil => rfl
  | cons d ds => simp [PyData.eqv, PyData.eqvAll]
theorem paired_of {α β : Type} {R : α → β → Prop} : ∀ {as : List α} {bs : List β}, as.length = bs.length → (∀ (i : Nat) (a : α) (b : β), as[i]? = some a → bs[i]? = some b → R a b) → Paired R as bs
  | [], [], _, _ => .nil
  | [], _ :: _, h, _ => nomatch h
  | _ :: _, [], h, _ => nomatch h
  | a :: as, b :: bs, h, r => .cons (r 0 a b rfl rfl) (paired_of (by simpa using h) fun i a' b' h1 h2 => r (i + 1) a' b' (by simpa using h1) (by simpa using h2))
theorem ne_ho {H : Hp} {x y : Addr} {o o' : HO} (hx : H x = some o) (hy : H y = some o') (h : o ≠ o') : x ≠ y := fun e => h (Option.some.inj (hx.symm.trans (e ▸ hy)))
theorem okd_ints {ns : List Int} (h : ns.length < 1000) : OKd (.list (ns.map PyData.int)) := by
  refine ⟨?_, ?_⟩
  · simp only [Cb.good, List.length_map, h, decide_true, Bool.true_and]
    exact goods_of fun d hd => by
      obtain ⟨n, _, rfl⟩ := List.mem_map.mp hd
      rfl
  · have := depthAll_le (n := 0) (ds := ns.map PyData.int) fun d hd => by
      obtain ⟨n, _, rfl⟩ := List.mem_map.mp hd
      simp [PyData.depth]
    simp only [PyData.depth]
    omega
theorem dts_ints {H : Hp} : ∀ ns : List Int, DTs H (ns.map V.int) (ns.map PyData.int)
  | [] => .nil
  | n :: ns => .cons (.int n) (dts_ints ns)
def rLof (K : PySem.W.Frag) : List V → Hp → VK → Prop := fun xs H Q => ∃ p ys, xs = [.ref p] ∧ (SqL K H p ys ∨ SqT K H p ys) ∧ ∀ l, H l = none → Q (.ref l) (upd H l (.lst ys))
theorem call_lof {X : Cx} : CallR X (.type "list") (rLof X.K) := call_list_of
theorem inV_ints {a : Int} : ∀ {ns : List Int}, inV (.int a) (ns.map V.int) = decide (a ∈ ns)
  | [] => rfl
  | n :: ns => by
    have ih := inV_ints (a := a) (ns := ns)
    unfold inV at ih ⊢
    rw [List.map_cons, List.any_cons, ih]
    show ((n == a) || decide (a ∈ ns)) = decide (a ∈ n :: ns)
    by_cases e : n = a
    · subst e
      simp
    · simp [e, Ne.symm e]
theorem flat_ints : ∀ ns : List Int, (ns.map V.int).all flatV = true := fun ns => by
  rw [List.all_map, List.all_eq_true]
  exact fun _ _ => rfl
theorem okd_pairs {ps : List Pr} (h : ps.length < 1000) : OKd (.list (ps.map pairD)) := by
  refine ⟨?_, ?_⟩
  · simp only [Cb.good, List.length_map, h, decide_true, Bool.true_and]
    exact goods_of fun d hd => by
      obtain ⟨n, _, rfl⟩ := List.mem_map.mp hd
      rfl
  · have := depthAll_le (n := 1) (ds := ps.map pairD) fun d hd => by
      obtain ⟨n, _, rfl⟩ := List.mem_map.mp hd
      simp [pairD, PyData.depth, PyData.depthAll]
    simp only [PyData.depth]
    omega
theorem map_isEmpty {α β : Type} (f : α → β) (l : List α) : (l.map f).isEmpty = l.isEmpty := by cases l <;> rfl
/-- xs == [], xs != [] of a list of pairs -/
theorem cmp_nil {K : PySem.W.Frag} {H : Hp} {a e : Addr} {ps : List Pr} (d : DT H (.ref a) (.list (ps.map pairD))) (he : H e = some (.lst [])) (l : ps.length < 1000) :
    ∃ x y : PyData, Dp K H (.ref a) x ∧ Dp K H (.ref e) y ∧ SeqAt.shaped x = true ∧ SeqAt.shaped y = true ∧ PyData.eqv x y = ps.isEmpty := by
  have ok := okd_pairs l
  exact ⟨_, .list [], d.dp (good_plain _ ok.good), .lst (SqL.of he) .nil, ok.shaped, rfl, by rw [eqv_nil, map_isEmpty]⟩
def rowD (r : List Pr) : PyData := .list (r.map pairD)
theorem hidS {S : List Addr} {H H' : Hp} (s : Same H H') : Same (hid S H) (hid S H') := Keep.hid (same_keep s)
theorem new_g {g z : Addr} {H : Hp} (hg : ∃ o, H g = some o) (nz : H z = none) : z ≠ g := by
  obtain ⟨o, e⟩ := hg
  exact (ne_of_none e nz).symm
theorem dt_lst {g z : Addr} {H : Hp} {xs : List V} {ds : List PyData} (hg : ∃ o, H g = some o) (nz : H z = none) (d : DTs (hid [g] H) xs ds) : Same H (upd H z (.lst xs)) ∧ DT (hid [g] (upd H z (.lst xs))) (.ref z) (.list ds) := by
  have s := same_new (o := .lst xs) nz
  exact ⟨s, .lst (hid_at (nin1 (new_g hg nz)) upd_same) (d.same (hidS s) _)⟩
theorem dt_tup {g z : Addr} {H : Hp} {xs : List V} {ds : List PyData} (hg : ∃ o, H g = some o) (nz : H z = none) (d : DTs (hid [g] H) xs ds) : Same H (upd H z (.tup xs)) ∧ DT (hid [g] (upd H z (.tup xs))) (.ref z) (.tuple ds) := by
  have s := same_new (o := .tup xs) nz
  exact ⟨s, .tup (hid_at (nin1 (new_g hg nz)) upd_same) (d.same (hidS s) _)⟩
theorem ex_same {g : Addr} {H H' : Hp} (hg : ∃ o, H g = some o) (s : Same H H') : ∃ o, H' g = some o := by
  obtain ⟨o, e⟩ := hg
  exact ⟨o, s _ _ e⟩
/-- [.., x] put behind a list -/
theorem dt_app {g z l : Addr} {H : Hp} {xs ys : List V} {ds es : List PyData} (hg : ∃ o, H g = some o) (dr : DTs (hid [g] H) xs ds) (dy : DTs (hid [g] H) ys es) (nl : H l = none) (nz : (upd H l (.lst ys)) z = none) :
    Same H (upd (upd H l (.lst ys)) z (.lst (xs ++ ys))) ∧ DT (hid [g] (upd (upd H l (.lst ys)) z (.lst (xs ++ ys)))) (.ref z) (.list (ds ++ es)) := by
  have s := same_new (o := .lst ys) nl
  obtain ⟨s2, d2⟩ := dt_lst (ex_same hg s) nz ((DTs.app dr dy).same (hidS s) _)
  exact ⟨s.trans s2, d2⟩
theorem dt_ahead {g z l : Addr} {H : Hp} {xs ys : List V} {ds es : List PyData} (hg : ∃ o, H g = some o) (dr : DTs (hid [g] H) xs ds) (dy : DTs (hid [g] H) ys es) (nl : H l = none) (nz : (upd H l (.lst ys)) z = none) :
    Same H (upd (upd H l (.lst ys)) z (.lst (ys ++ xs))) ∧ DT (hid [g] (upd (upd H l (.lst ys)) z (.lst (ys ++ xs)))) (.ref z) (.list (es ++ ds)) := by
  have s := same_new (o := .lst ys) nl
  obtain ⟨s2, d2⟩ := dt_lst (ex_same hg s) nz ((DTs.app dy dr).same (hidS s) _)
  exact ⟨s.trans s2, d2⟩
theorem dt_pair {g t : Addr} {H : Hp} {a b : Int} (hg : ∃ o, H g = some o) (nt : H t = none) : Same H (upd H t (.tup [.int a, .int b])) ∧ DTs (hid [g] (upd H t (.tup [.int a, .int b]))) [.ref t] ([(a, b)].map pairD) := by
  obtain ⟨s, d⟩ := dt_tup (ds := [.int a, .int b]) hg nt (.cons (.int _) (.cons (.int _) .nil))
  exact ⟨s, .cons d .nil⟩
theorem dt_cat1 {g t l z : Addr} {H : Hp} {xs : List V} {r : List Pr} {a b : Int} (hg : ∃ o, H g = some o) (dr : DTs (hid [g] H) xs (r.map pairD)) (nt : H t = none) (nl : (upd H t (.tup [.int a, .int b])) l = none) (nz : (upd (upd H t (.tup [.int a, .int b])) l (.lst [.ref t])) z = none) :
    Same H (upd (upd (upd H t (.tup [.int a, .int b])) l (.lst [.ref t])) z (.lst (xs ++ [.ref t]))) ∧ DT (hid [g] (upd (upd (upd H t (.tup [.int a, .int b])) l (.lst [.ref t])) z (.lst (xs ++ [.ref t])))) (.ref z) (rowD (r ++ [(a, b)])) := by
  obtain ⟨s1, d1⟩ := dt_pair (a := a) (b := b) hg nt
  obtain ⟨s2, d2⟩ := dt_app (ex_same hg s1) (dr.same (hidS s1) _) d1 nl nz
  exact ⟨s1.trans s2, by rw [rowD, List.map_append]; exact d2⟩
theorem dt_1cat {g t l z : Addr} {H : Hp} {xs : List V} {r : List Pr} {a b : Int} (hg : ∃ o, H g = some o) (dr : DTs (hid [g] H) xs (r.map pairD)) (nt : H t = none) (nl : (upd H t (.tup [.int a, .int b])) l = none) (nz : (upd (upd H t (.tup [.int a, .int b])) l (.lst [.ref t])) z = none) :
    Same H (upd (upd (upd H t (.tup [.int a, .int b])) l (.lst [.ref t])) z (.lst ([.ref t] ++ xs))) ∧ DT (hid [g] (upd (upd (upd H t (.tup [.int a, .int b])) l (.lst [.ref t])) z (.lst ([.ref t] ++ xs)))) (.ref z) (rowD ((a, b) :: r)) := by
  obtain ⟨s1, d1⟩ := dt_pair (a := a) (b := b) hg nt
  obtain ⟨s2, d2⟩ := dt_ahead (ex_same hg s1) (dr.same (hidS s1) _) d1 nl nz
  exact ⟨s1.trans s2, d2⟩
theorem DTs.rev {H : Hp} : ∀ {xs : List V} {ds : List PyData}, DTs H xs ds → DTs H xs.reverse ds.reverse
  | _, [], h => by cases h; exact .nil
  | _, d :: ds, h => by
    cases h with
    | cons a r =>
      rw [List.reverse_cons, List.reverse_cons]
      exact DTs.snoc (DTs.rev (ds := ds) r) a
theorem DT.lst' {H : Hp} {a : Addr} {ds : List PyData} (h : DT H (.ref a) (.list ds)) : ∃ xs, H a = some (.lst xs) ∧ DTs H xs ds := by
  cases h with
  | lst e r => exact ⟨_, e, r⟩
theorem dt_dct {g z : Addr} {H : Hp} (hg : ∃ o, H g = some o) (nz : H z = none) : Same H (upd H z (.dK [])) ∧ DT (hid [g] (upd H z (.dK []))) (.ref z) (.dict []) :=
  ⟨same_new nz, .dct (hid_at (nin1 (new_g hg nz)) upd_same)⟩
theorem DT.refl' {H : Hp} {x : V} {ds : List PyData} (h : DT H x (.list ds)) : ∃ a xs, x = .ref a ∧ H a = some (.lst xs) ∧ DTs H xs ds := by
  cases h with
  | lst e r => exact ⟨_, _, rfl, e, r⟩
theorem rowD_good {r : List Pr} (h : r.length < 1000) : good (rowD r) = true := (okd_pairs h).good
theorem okd_two {r p : List Pr} (h : r.length < 1000) (h2 : p.length < 1000) : OKd (.list [rowD r, rowD p]) := by
  refine ⟨?_, ?_⟩
  · simp only [Cb.good, goods, rowD_good h, rowD_good h2, List.length_cons, List.length_nil]
    rfl
  · have a1 := (okd_pairs h).dep
    have a2 := (okd_pairs h2).dep
    have d1 : ∀ l : List Pr, (rowD l).depth ≤ 2 := fun l => by
      have := depthAll_le (n := 1) (ds := l.map pairD) fun d hd => by
        obtain ⟨n, _, rfl⟩ := List.mem_map.mp hd
        simp [pairD, PyData.depth, PyData.depthAll]
      simp only [rowD, PyData.depth]
      omega
    have b1 := d1 r
    have b2 := d1 p
    simp only [PyData.depth, PyData.depthAll]
    omega
theorem eqv_ok {d : PyData} (h : OKd d) : PyData.eqv d d = true := SeqAt.eqv_refl d (good_can d h.good)
theorem neD {d : PyData} {A B : Prop} (h : OKd d) (b : B) : if (!PyData.eqv d d) = true then A else B := by
  rw [eqv_ok h]
  exact iteF b
theorem fits_bool (b : Bool) : Fits [2] (.bool b) := fits_of [2] (by decide) _ rfl
instance (p : Pr) : Decidable (InP p) := by unfold InP; infer_instance
theorem lit1 {H : Hp} {t l : Addr} {a b : Int} (nt : H t = none) (nl : (upd H t (.tup [.int a, .int b])) l = none) : Same H (upd (upd H t (.tup [.int a, .int b])) l (.lst [.ref t])) ∧ DT (upd (upd H t (.tup [.int a, .int b])) l (.lst [.ref t])) (.ref l) (rowD [(a, b)]) :=
  ⟨(same_new nt).trans (same_new nl), .lst upd_same (.cons (.tup (same_new nl _ _ upd_same) (.cons (.int _) (.cons (.int _) .nil))) .nil)⟩
theorem lit2 {H : Hp} {t u l : Addr} {a b c d : Int} (nt : H t = none) (nu : (upd H t (.tup [.int a, .int b])) u = none) (nl : (upd (upd H t (.tup [.int a, .int b])) u (.tup [.int c, .int d])) l = none) :
    Same H (upd (upd (upd H t (.tup [.int a, .int b])) u (.tup [.int c, .int d])) l (.lst [.ref t, .ref u])) ∧ DT (upd (upd (upd H t (.tup [.int a, .int b])) u (.tup [.int c, .int d])) l (.lst [.ref t, .ref u])) (.ref l) (rowD [(a, b), (c, d)]) :=
  ⟨((same_new nt).trans (same_new nu)).trans (same_new nl), .lst upd_same (.cons (.tup (same_new nl _ _ (same_new nu _ _ upd_same)) (.cons (.int _) (.cons (.int _) .nil))) (.cons (.tup (same_new nl _ _ upd_same) (.cons (.int _) (.cons (.int _) .nil))) .nil))⟩
theorem lit0 {H : Hp} {l : Addr} (nl : H l = none) : Same H (upd H l (.lst [])) ∧ DT (upd H l (.lst [])) (.ref l) (rowD []) := ⟨same_new nl, .lst upd_same .nil⟩
theorem dts_rep {H : Hp} {x : V} {d : PyData} (h : DT H x d) : ∀ n : Nat, DTs H (List.replicate n [x]).flatten (List.replicate n d)
  | 0 => .nil
  | n + 1 => by
    rw [List.replicate_succ, List.replicate_succ, List.flatten_cons]
    exact .cons h (dts_rep h n)
theorem erase_map {α β : Type} (f : α → β) : ∀ (l : List α) (j : Nat), (l.map f).eraseIdx j = (l.eraseIdx j).map f
  | [], j => by simp
  | a :: r, 0 => by simp
  | a :: r, j + 1 => by simp [erase_map f r j]
theorem erase_out {α : Type} : ∀ {l : List α} {k : Nat} {y : α}, l.Nodup → l[k]? = some y → y ∉ l.eraseIdx k
  | [], k, y, _, h => by simp at h
  | a :: r, 0, y, n, h => by
    obtain rfl : a = y := by simpa using h
    exact (List.nodup_cons.mp n).1
  | a :: r, k + 1, y, n, h => by
    have n2 := List.nodup_cons.mp n
    have h2 : r[k]? = some y := by simpa using h
    rw [List.eraseIdx_cons_succ, List.mem_cons, not_or]
    exact ⟨fun e => n2.1 (e ▸ List.mem_of_getElem? h2), erase_out n2.2 h2⟩
end Cb
set_option Elab.async false
set_option linter.all false
set_option maxRecDepth 100000
set_option maxHeartbeats 4000000
namespace Cb
open PySem PySem.Spec PyProof.Rows L2
abbrev s_rings_of : Stmt := topS 21
abbrev NRo : List Str := ["shuffle", "pairs", "table", "others", "found", "first", "ring", "_", "other", "own"]
theorem sc_rings_of : FnScope NRo ["shuffle"] (defScope s_rings_of) := ⟨rfl, rfl, rfl, by decide +kernel, rfl, by decide +kernel, by decide +kernel⟩
abbrev s_rings : Stmt := topS 22
theorem sc_rings : FnScope ["shuffle"] ["shuffle"] (defScope s_rings) := ⟨rfl, rfl, rfl, by decide +kernel, rfl, by decide +kernel, by decide +kernel⟩
abbrev s_fewest_moves : Stmt := topS 23
theorem sc_fewest_moves : FnScope ["shuffle"] ["shuffle"] (defScope s_fewest_moves) := ⟨rfl, rfl, rfl, by decide +kernel, rfl, by decide +kernel, by decide +kernel⟩
structure TRg (K : PySem.W.Frag) (mg : Str → Option Value) : Prop where
  rf : TRf K mg
  d_rings_of : Has K mg "rings_of" s_rings_of ["shuffle"]
  b_sorted : mg "sorted" = none
  b_min : mg "min" = none
/-- a method within a comprehension: K written -/
theorem pe_bmC {X : Cx} (K : PySem.W.Frag) {T : String} {name : Str} {id : String} {r : V → List V → Hp → VK → Prop} {o e : Expr} {es : List Expr} {to : TE} {t : TA} {apos cpos : Pos} (hk : X.K = K) (pa : PlainAttrs T) (slot : Slot T name id) (hty : typeOf (.builtin id) = pure (.type "method_descriptor")) (hm : MtR X id r) (ho : PE X o to) (ha : PA X (e :: es) t)
    (hbase : attributeBase o name X.env (eval o X.env) = eval o X.env := by rfl)
    (hfew : ((backTo cpos (starEach (e :: es) X.env)).all (fun x => !x.1) && (backToKw cpos (keywordEach [] X.env)).all (fun x => x.1.isSome)
      && decide ((e :: es).length + ([] : List Keyword).length + (if ([] : List Keyword).isEmpty then 0 else 1) < 30)) = true := by rfl)
    (hline : (apos.endLine == cpos.line) = true := by rfl) (hs : starEach (e :: es) X.env = (false, eval e X.env) :: starEach es X.env := by rfl) (hplain : (backTo cpos (starEach es X.env)).any (·.1) = false := by rfl) :
    PE X (.Call (.Attribute o name apos) (e :: es) [] cpos) (tBM K T r to t) := hk ▸ pe_bm pa slot hty hm ho ha hbase hfew hline hs hplain
/-- a new list of new lists -/
def RLs (H0 H : Hp) (p : Addr) (rs : List (List Int)) : Prop := ∃ as : List Addr, H p = some (.lst (as.map V.ref)) ∧ Paired (fun a r => H0 a = none ∧ a ≠ p ∧ H a = some (.lst (r.map V.int))) as rs
theorem tb_of : ∀ (l : List Pr), Tb (l.map kvP) l
  | [], x => rfl
  | p :: l, x => by
    show valV ((Sum.inl p.1, V.int p.2) :: l.map kvP) (Sum.inl x) = _
    by_cases e : p.1 = x
    · rw [valV_pos (congrArg Sum.inl e)]
      unfold lk
      rw [List.find?_cons_of_pos (by simpa using e)]
      rfl
    · rw [valV_neg fun z => e (Sum.inl.inj z), tb_of l x]
      unfold lk
      rw [List.find?_cons_of_neg (by simpa using e)]
theorem Paired.keepH {H0 H H' : Hp} {p : Addr} (k : ∀ a, H0 a = none → a ≠ p → ∀ o, H a = some o → H' a = some o) : ∀ {as : List Addr} {rs : List (List Int)}, Paired (fun a r => H0 a = none ∧ a ≠ p ∧ H a = some (.lst (r.map V.int))) as rs → Paired (fun a r => H0 a = none ∧ a ≠ p ∧ H' a = some (.lst (r.map V.int))) as rs
  | _, _, .nil => .nil
  | _, _, .cons h r => .cons ⟨h.1, h.2.1, k _ h.1 h.2.1 _ h.2.2⟩ (Paired.keepH k r)
theorem Paired.snoc {α β : Type} {R : α → β → Prop} {x : α} {y : β} (h : R x y) : ∀ {as : List α} {bs : List β}, Paired R as bs → Paired R (as ++ [x]) (bs ++ [y])
  | _, _, .nil => .cons h .nil
  | _, _, .cons a r => .cons a (Paired.snoc h r)
theorem Paired.len {α β : Type} {R : α → β → Prop} : ∀ {as : List α} {bs : List β}, Paired R as bs → as.length = bs.length
  | _, _, .nil => rfl
  | _, _, .cons a r => by rw [List.length_cons, List.length_cons, Paired.len r]
theorem all_bits {α : Type} (f : α → Bool) (xs : List α) : ((xs.map f).all id = true) ↔ ∀ x ∈ xs, f x = true := by
  rw [List.all_map, List.all_eq_true]
  rfl
section
variable {P : Program} {w : World} {K : PySem.W.Frag} {mg : Str → Option Value} {base : Heap}
def sp_rings : Sp := fun vs H Q _ => ∃ (v : V) (ps : List Pr), vs = [v] ∧ DT H v (.list (ps.map pairD)) ∧ Shuf ps ∧ ∀ (p : Addr) (H' : Hp), H p = none → Same H H' → RLs H H' p (ringsM (ps.filter unl)) → Q (.ref p) H'
theorem c_rings_of (T : TRg K mg) : Says P w K mg base 2 "rings_of" ["shuffle"] sp_rings := by
  refine says T.d_rings_of sc_rings_of (fun vs H Q E h => ?_) (fun f cdv A outer s H vs Q E hr h => ?_)
  · obtain ⟨_, _, rfl, _⟩ := h; rfl
  refine ⟨_, (pss_cons (ps_set (i := 1) sc_rings_of.nd rfl (.inl rfl) (pe_s (c_unlike_pairs T.rf.tv.to.tf.tr) hr (pa_cons (pv 0) pa_nil)))
    (pss_cons (ps_asg (pe_tup (pa_cons (pe_callTy (call_dictP rfl) (by rfl) T.rf.tv.to.tf.tr.tm.b_dict (by decide +kernel) (pa_cons (pv 1) pa_nil)) (pa_cons (pe_lc (own := [("_", 7), ("other", 8)]) (g := gTup K 2 (gCons (gName 7) (gCons (gName 8) gNil))) (tt := tYes) rfl sc_rings_of.nd (pi_list (pv 1)) (blkOk_by (N := NRo) (sc := defScope s_rings_of) (own := [("_", 7), ("other", 8)]) (by decide +kernel)) (fun _ _ _ _ _ => pg_tup rfl ((pgs_cons (pg_name (i := 7) sc_rings_of.nd rfl (.inl rfl)) (pgs_cons (pg_name (i := 8) sc_rings_of.nd rfl (.inl rfl)) pgs_nil)))) (fun _ _ _ _ _ => pts_nil) (fun _ _ _ _ _ => (pv 8))) pa_nil))) (pg_tup rfl (pgs_cons (pg_name (i := 2) sc_rings_of.nd rfl (.inl rfl)) (pgs_cons (pg_name (i := 3) sc_rings_of.nd rfl (.inr rfl)) pgs_nil))))
    (pss_cons (ps_set (i := 4) sc_rings_of.nd rfl (.inl rfl) (pe_lst pa_nil))
    (pss_cons (ps_for PassesOwn.never rfl (pi_list (pe_callB cr_sorted (by rfl) T.b_sorted (by decide +kernel) (pa_cons (pe_callTy (call_list_dK rfl) (by rfl) T.rf.tv.to.tf.tr.tm.b_list (by decide +kernel) (pa_cons (pv 2) pa_nil)) pa_nil))) (pg_name (i := 5) sc_rings_of.nd rfl (.inl rfl))
        (pss_cons (ps_set (i := 6) sc_rings_of.nd rfl (.inl rfl) (pe_s (c_ring_from T.rf) hr (pa_cons (pv 5) (pa_cons (pv 2) pa_nil))))
        (pss_cons (ps_if (PW.pt (pw_or (pt_cmpR op_isN (pv 6) pe_non (nomark _)) (pw_or1 (pt_cmpR op_ne (pe_callB (cr_min rfl) (by rfl) T.b_min (by decide +kernel) (pa_cons (pv 6) pa_nil)) (pv 5) (nomark _)))))
            (pss_one ps_continue)
            pss_nil)
        (pss_one (ps_if (pt_val (pe_callB (cr_all rfl) (by rfl) T.rf.tv.to.tf.tr.tm.b_all (by decide +kernel) (pa_cons (pe_lc (own := [("own", 9)]) (g := gName 9) (tt := tYes) rfl sc_rings_of.nd (pi_list (pv 6)) (blkOk_by (N := NRo) (sc := defScope s_rings_of) (own := [("own", 9)]) (by decide +kernel)) (fun _ _ _ _ _ => pg_name (i := 9) sc_rings_of.nd rfl (Or.inl rfl)) (fun _ _ _ _ _ => pts_nil) (fun _ _ _ _ _ => (pe_cmpR op_eq (pe_bmC (r := rCntI K) K rfl PySem.F.plainAttrs_list PySem.F.slot_list_count PySem.F.type_list_count mt_lcount (pv 3) (pa_cons (pv 9) pa_nil)) pe_int (nomark _)))) pa_nil)))
            (pss_one (ps_expr (pe_bm PySem.F.plainAttrs_list PySem.F.slot_list_append PySem.F.type_list_append mt_append (pv 4) (pa_cons (pv 6) pa_nil))))
            pss_nil)))))
    (pss_one (ps_ret (pv 4))))))), ?_⟩
  obtain ⟨v, ps, rfl, hd, S, q⟩ := h
  have few := S.few
  refine ⟨_, rfl, v, ps, rfl, hd, by omega, fun u H1 nu s1 du => ?_⟩
  have ndl : ((ps.filter unl).map (·.1)).Nodup := S.nd.sublist (List.Sublist.map _ List.filter_sublist)
  have ll : (ps.filter unl).length ≤ 40 := Nat.le_trans (List.length_filter_le ..) few
  generalize ps.filter unl = l at du ndl ll q ⊢
  cases du with
  | @lst _ xs _ eu ru =>
  have lx := ru.length
  rw [List.length_map] at lx
  obtain ⟨as, ea, la, pp⟩ := pairs_addr (K := K) ru
  refine ⟨_, rfl, u, as, _, rfl, by rw [← ea]; exact SqL.of eu, pp, fun dd ndd => ?_⟩
  rw [dict_of ndl]
  have s2 := s1.trans (same_new (o := .dK (l.map kvP)) ndd)
  have eu2 := same_new (o := .dK (l.map kvP)) ndd _ _ eu
  have ru2 := ru.same (same_new (o := .dK (l.map kvP)) ndd) _
  have hdd : (upd H1 dd (.dK (l.map kvP))) dd = some (.dK (l.map kvP)) := upd_same
  generalize upd H1 dd (.dK (l.map kvP)) = H2 at s2 eu2 ru2 hdd ⊢
  clear eu ru pp ea s1
  refine ⟨_, rfl, u, rfl, ⟨_, SqL.of eu2⟩, fun D hD => ?_⟩
  refine lc_it (walk_list (K := K) (a := u) (xs := xs)) (fun j H' => Same H2 H' ∧ H' D = some (.lst (((l.take j).map (·.2)).map V.int))) ⟨same_new hD, upd_same⟩ (fun i H' _ z => SqL.of (z.1 _ _ eu2)) ?_ ?_
  · rintro j x H3 H4 hj ⟨s3, hb⟩ ⟨rfl, hx⟩
    obtain ⟨r, t, hps, rfl, ht⟩ := pair_at ru2 hx
    refine ⟨t, _, rfl, SqT.of (s3 _ _ ht), rfl, _, _, rfl, _, _, rfl, rfl, rfl, ?_⟩
    refine ⟨_, rfl, _, hb, small1000'' (by rw [List.length_map, List.length_map, List.length_take]; omega), ?_, ?_⟩
    · intro b o e
      rw [upd_ne (ne_of_none e hD)]
      exact s3 _ _ e
    · rw [upd_same, List.take_add_one, hps, List.map_append, List.map_append]
      rfl
  rintro H3 ⟨s3, hb⟩
  rw [lx, List.take_length] at hb
  refine ⟨(show 2 ≤ sizeLine by decide), fun t nt => ⟨t, _, rfl, SqT.of upd_same, rfl, _, _, rfl, _, _, rfl, rfl, ?_⟩⟩
  refine ⟨Nat.zero_le _, fun F nF => ?_⟩
  have nDF : D ≠ F := ne_of_none (same_new (o := .tup [.ref dd, .ref D]) nt _ _ hb) nF
  have s4 := (s2.trans s3).trans ((same_new (o := .tup [.ref dd, .ref D]) nt).trans (same_new (o := .lst []) nF))
  have hdd4 := same_new (o := .lst []) nF _ _ (same_new (o := .tup [.ref dd, .ref D]) nt _ _ (s3 _ _ hdd))
  have hD4 := same_new (o := .lst []) nF _ _ (same_new (o := .tup [.ref dd, .ref D]) nt _ _ hb)
  have nFH : H F = none := ((s2.trans s3).trans (same_new (o := .tup [.ref dd, .ref D]) nt)).free nF
  have hF4 : (upd (upd H3 t (.tup [.ref dd, .ref D])) F (.lst [])) F = some (.lst []) := upd_same
  generalize upd (upd H3 t (.tup [.ref dd, .ref D])) F (.lst []) = H4 at s4 hdd4 hD4 hF4 ⊢
  clear nF nt hb s3 hdd ru2 eu2 s2
  refine ⟨_, rfl, dd, _, rfl, hdd4, fun q1 nq1 => ?_⟩
  have ek : ((l.map kvP).map fun kv => kV kv.1) = (l.map (·.1)).map V.int := by
    rw [List.map_map, List.map_map]
    rfl
  rw [ek]
  refine ⟨q1, l.map (·.1), rfl, SqL.of upd_same, by rw [List.length_map]; omega, fun ns q2 perm rise nq2 => ?_⟩
  have es : ns = srtI (l.map (·.1)) := by
    have ndn : ns.Nodup := perm.nodup_iff.mpr ndl
    refine srt_is ndl ?_ fun z => perm.mem_iff
    exact List.Pairwise.imp₂ (fun a b (h1 : a ≤ b) (h2 : a ≠ b) => by omega) rise ndn
  subst es
  have nqF : q2 ≠ F := (ne_of_none (same_new (o := .lst ((l.map (·.1)).map V.int)) nq1 _ _ hF4) nq2).symm
  have k5 : Same H4 (upd (upd H4 q1 (.lst ((l.map (·.1)).map V.int))) q2 (.lst ((srtI (l.map (·.1))).map V.int))) := (same_new nq1).trans (same_new nq2)
  have hq5 : (upd (upd H4 q1 (.lst ((l.map (·.1)).map V.int))) q2 (.lst ((srtI (l.map (·.1))).map V.int))) q2 = some (.lst ((srtI (l.map (·.1))).map V.int)) := upd_same
  generalize upd (upd H4 q1 (.lst ((l.map (·.1)).map V.int))) q2 (.lst ((srtI (l.map (·.1))).map V.int)) = H5 at k5 hq5 ⊢
  have s5 := s4.trans k5
  have hdd5 := k5 _ _ hdd4
  have hD5 := k5 _ _ hD4
  have hF5 := k5 _ _ hF4
  have nFd : dd ≠ F := ne_ho hdd5 hF5 (by intro z; cases z)
  have keepH : ∀ H', Keep [F] H5 H' → Same H H' := fun H' k b o e => k b o (nin1 (ne_of_none e nFH)) (s5 b o e)
  refine ⟨q2, rfl, ⟨_, SqL.of hq5⟩, ?_⟩
  refine for_it (walk_list (K := K) (a := q2) (xs := (srtI (l.map (·.1))).map V.int)) (fun j σ H' => (∃ x5 x6 : Option V, σ = [some v, some (.ref u), some (.ref dd), some (.ref D), some (.ref F), x5, x6, none, none, none]) ∧ Keep [F] H5 H' ∧
      ∃ as : List Addr, H' F = some (.lst (as.map V.ref)) ∧ Paired (fun a r => H a = none ∧ a ≠ F ∧ H' a = some (.lst (r.map V.int))) as ((((srtI (l.map (·.1))).take j).filter (hedB l)).map (ringL l)))
    ⟨⟨_, _, rfl⟩, Keep.refl, [], hF5, .nil⟩ (fun j σ H' _ z => SqL.of (z.2.1 _ _ (nin1 nqF) hq5)) ?_ ?_
  · rintro j x σ H6 H7 hj ⟨⟨x5, x6, rfl⟩, k6, as6, hF6, pa6⟩ ⟨rfl, hx⟩
    rw [List.length_map] at hj
    have hx2 : (srtI (l.map (·.1)))[j]? = some (srtI (l.map (·.1)))[j] := List.getElem?_eq_getElem hj
    rw [List.getElem?_map, hx2] at hx
    obtain rfl : V.int _ = x := Option.some.inj hx
    have mj : (srtI (l.map (·.1)))[j] ∈ l.map (·.1) := mem_srtI.mp (List.getElem_mem hj)
    generalize (srtI (l.map (·.1)))[j] = y at hx2 mj
    have ft := filter_take' (f := hedB l) hx2
    obtain ⟨pr, hpr, rfl⟩ := List.mem_map.mp mj
    have l0 := lk_of ndl hpr
    obtain ⟨rgc, rgn⟩ := ring_go l0
    have dn := ringL_done l pr.1
    have asked := hed_asked (x := pr.1) ndl
    have hdd6 := k6 _ _ (nin1 nFd) hdd5
    have hD6 := k6 _ _ (nin1 nDF) hD5
    have l6 := Paired.len pa6
    rw [List.length_map] at l6
    have l6' : as6.length ≤ 40 := by
      have h1 := List.length_filter_le (hedB l) ((srtI (l.map (·.1))).take j)
      have h2 := (srt_perm ndl).length_eq
      rw [List.length_take] at h1
      rw [List.length_map] at h2
      omega
    have stay : hedB l pr.1 = false → ∀ (x5 x6 : Option V) (H8 : Hp), Same H7 H8 → (∃ x5' x6' : Option V, [some v, some (.ref u), some (.ref dd), some (.ref D), some (.ref F), x5, x6, none, none, none] = [some v, some (.ref u), some (.ref dd), some (.ref D), some (.ref F), x5', x6', none, none, none]) ∧ Keep [F] H5 H8 ∧
      ∃ as : List Addr, H8 F = some (.lst (as.map V.ref)) ∧ Paired (fun a r => H a = none ∧ a ≠ F ∧ H8 a = some (.lst (r.map V.int))) as ((((srtI (l.map (·.1))).take (j + 1)).filter (hedB l)).map (ringL l)) := by
      intro hf x5 x6 H8 s8
      refine ⟨⟨_, _, rfl⟩, k6.trans (same_keep s8), as6, s8 _ _ hF6, ?_⟩
      rw [ft, if_neg (by rw [hf]; decide), List.append_nil]
      exact Paired.keepH (fun a _ _ o e => s8 _ _ e) pa6
    have noH : (∃ y ∈ ringL l pr.1, ¬ pr.1 ≤ y) ∨ ¬ Cyc l pr.1 ∨ ¬ (∀ p ∈ l, Orb l pr.1 p.2 → Orb l pr.1 p.1) → hedB l pr.1 = false := by
      intro h
      cases hb : hedB l pr.1 with
      | false => rfl
      | true =>
        exfalso
        obtain ⟨a1, a2, a3⟩ := asked.mp (hedB_iff.mp hb)
        rcases h with ⟨y, hy, n⟩ | h | h
        · exact n (a2 y hy)
        · exact h a1
        · exact h a3
    refine ⟨_, rfl, _, rfl, dd, _, l, pr.1, pr.2, rfl, hdd6, tb_of l, by rw [List.length_map], ll, l0, fun H8 s8 => ⟨fun en => ?_, fun R p er np hp => ?_⟩⟩
    · have nc : ¬ Cyc l pr.1 := fun c => by
        rw [rgc c] at en
        cases en
      refine ⟨_, rfl, rfl, _, rfl, iteT ?_⟩
      exact stay (noH (.inr (.inl nc))) _ _ H8 s8
    · have c : Cyc l pr.1 := Classical.byContradiction fun n => by
        rw [rgn n] at er
        cases er
      rw [rgc c] at er
      obtain rfl : ringL l pr.1 = R := Option.some.inj er
      have lr := dn.le c
      refine ⟨_, rfl, rfl, _, rfl, iteF ?_⟩
      refine ⟨_, rfl, p, _, rfl, SqL.of hp, dn.pos, fun m hm le => ?_⟩
      refine ⟨_, rfl, rfl, _, rfl, ifNeI (fun ne => ?_) (fun em => ?_)⟩
      · refine stay (noH (.inl ⟨m, hm, ?_⟩)) _ _ H8 s8
        have h1 : pr.1 ∈ ringL l pr.1 := (dn.orb c _).mp (Orb.refl _ _)
        have := le _ h1
        omega
      · refine ⟨_, rfl, p, rfl, ⟨_, SqL.of hp⟩, fun D3 hD3 => lc_mapW (walk_list (K := K) (a := p) (xs := (ringL l pr.1).map V.int)) (ys := (ringL l pr.1).map fun y => V.bl (decide ((l.map (·.2)).count y = 1))) (fun H' s' => SqL.of (s' _ _ hp)) (fun j H x H' y => y.1) hD3 (by rw [List.length_map, List.length_map]) (by rw [List.length_map]; omega) ?_ ?_⟩
        · rintro i x y H9 Q' s9 ⟨_, hx⟩ hy q'
          rw [List.getElem?_map] at hx hy
          cases hz : (ringL l pr.1)[i]? with
          | none => rw [hz] at hx; cases hx
          | some z =>
            rw [hz] at hx hy
            obtain rfl : V.int z = x := Option.some.inj hx
            obtain rfl := Option.some.inj hy
            refine ⟨_, rfl, .inl ⟨rfl, _, SqL.of (s9 _ _ (s8 _ _ hD6))⟩, _, rfl, D, _, z, rfl, rfl, SqL.of (s9 _ _ (s8 _ _ hD6)), rfl, ?_⟩
            have e1 : decide (V.int (((l.map (·.2)).count z : Nat) : Int) = V.int 1) = decide ((l.map (·.2)).count z = 1) := by
              by_cases h : (l.map (·.2)).count z = 1
              · rw [decide_eq_true h, h]
                rfl
              · rw [decide_eq_false h, decide_eq_false]
                intro e
                exact h (by have := V.int.inj e; omega)
            show Q' (.bl (decide (V.int (((l.map (·.2)).count z : Nat) : Int) = V.int 1))) H9
            rw [e1]
            exact q' _ (Same.refl _)
        · intro H9 s9 hD9
          refine ⟨_, (ringL l pr.1).map fun y => decide ((l.map (·.2)).count y = 1), rfl, by rw [List.map_map]; exact SqL.of hD9, ?_⟩
          refine ⟨_, rfl, ifB (fun hb => ?_) (fun hb => ?_)⟩
          · have ones : ∀ y ∈ ringL l pr.1, (l.map (·.2)).count y = 1 := fun y hy => of_decide_eq_true ((all_bits _ _).mp hb y hy)
            have lone := (dn.ones c ndl).mp ones
            have hh : hedB l pr.1 = true := hedB_iff.mpr (asked.mpr ⟨c, fun y hy => by rw [← em]; exact le y hy, lone⟩)
            have s79 := s8.trans s9
            have hF9 := s79 _ _ hF6
            have npF : p ≠ F := (ne_of_none hF6 np).symm
            refine ⟨_, rfl, .inl ⟨rfl, _, SqL.of hF9⟩, _, rfl, F, _, _, rfl, rfl, hF9, small1000'' (by rw [List.length_map]; omega), ?_⟩
            refine ⟨⟨_, _, rfl⟩, ?_, as6 ++ [p], ?_, ?_⟩
            · intro b o nb e
              rw [upd_ne (fun z => nb (by simp [z]))]
              exact s79 _ _ (k6 _ _ nb e)
            · rw [upd_same, List.map_append]
              rfl
            · rw [ft, if_pos hh, List.map_append]
              refine Paired.snoc ⟨(keepH _ k6).free np, npF, (upd_ne npF).trans (s9 _ _ hp)⟩ (Paired.keepH (fun a _ na o e => ?_) pa6)
              rw [upd_ne na]
              exact s79 _ _ e
          · have nl : ¬ (∀ p ∈ l, Orb l pr.1 p.2 → Orb l pr.1 p.1) := fun h => by
              have := (all_bits (fun y => decide ((l.map (·.2)).count y = 1)) (ringL l pr.1)).mpr fun y hy => decide_eq_true ((dn.ones c ndl).mpr h y hy)
              rw [this] at hb
              cases hb
            exact stay (noH (.inr (.inr nl))) _ _ H9 (s8.trans s9)
  · rintro σ H6 ⟨⟨x5, x6, rfl⟩, k6, as6, hF6, pa6⟩
    rw [List.length_map, List.take_length] at pa6
    exact ⟨_, rfl, q F H6 nFH (keepH _ k6) ⟨as6, hF6, pa6⟩⟩
end
end Cb
set_option Elab.async false
set_option linter.all false
set_option maxRecDepth 100000
set_option maxHeartbeats 4000000
namespace Cb
open PySem PySem.Spec PyProof.Rows L2
structure TRs (K : PySem.W.Frag) (mg : Str → Option Value) : Prop where
  rg : TRg K mg
  d_rings : Has K mg "rings" s_rings ["shuffle"]
  k_rings : HasK K mg "rings" s_rings ["shuffle"] ["shuffle"] (fun l => l)
  d_fewest : Has K mg "fewest_moves" s_fewest_moves ["shuffle"]
  k_fewest : HasK K mg "fewest_moves" s_fewest_moves ["shuffle"] ["shuffle"] (fun l => l)
theorem RLs.since {H H1 H' : Hp} {p : Addr} {rs : List (List Int)} (s : Same H H1) (r : RLs H1 H' p rs) : RLs H H' p rs := by
  obtain ⟨as, h, pa⟩ := r
  refine ⟨as, h, ?_⟩
  clear h
  induction pa with
  | nil => exact .nil
  | cons a _ ih => exact .cons ⟨s.free a.1, a.2⟩ ih
theorem RLs.same {H H1 H' : Hp} {p : Addr} {rs : List (List Int)} (s : Same H1 H') (r : RLs H H1 p rs) : RLs H H' p rs := by
  obtain ⟨as, h, pa⟩ := r
  exact ⟨as, s _ _ h, Paired.keepH (fun a _ _ o e => s _ _ e) pa⟩
section
variable {P : Program} {w : World} {K : PySem.W.Frag} {mg : Str → Option Value} {base : Heap}
theorem b_rings (T : TRs K mg) : Body P w K mg base 6 "rings" s_rings ["shuffle"] sp_rings := by
  intro f cdv A outer st H vs Q E hr h
  refine ⟨_, (pss_cons (ps_expr (pe_s (c_ask_shuffle T.rg.rf.tv.to.tf.tr.tm) hr (pa_cons (pv 0) pa_nil)))
    (pss_one (ps_ret (pe_s (c_rings_of T.rg) hr (pa_cons (pv 0) pa_nil))))), ?_⟩
  obtain ⟨v, ps, rfl, hd, S, q⟩ := h
  refine ⟨_, rfl, v, ps, rfl, hd, S, fun H1 s1 => ?_⟩
  exact ⟨_, rfl, v, ps, rfl, hd.same s1 _, S, fun p H' np s2 r => q p H' (s1.free np) (s1.trans s2) (r.since s1)⟩
theorem c_rings (T : TRs K mg) : Says P w K mg base 7 "rings" ["shuffle"] sp_rings := says T.d_rings sc_rings (fun vs H Q E h => by obtain ⟨_, _, rfl, _⟩ := h; rfl) (b_rings T)
theorem k_rings (T : TRs K mg) : SaysK P w K mg base 7 "rings" ["shuffle"] ["shuffle"] (fun l => l) sp_rings := saysK T.k_rings sc_rings (fun vs H Q E h => by obtain ⟨_, _, rfl, _⟩ := h; rfl) (b_rings T)
def sp_fewest : Sp := fun vs H Q _ => ∃ (v : V) (ps : List Pr), vs = [v] ∧ DT H v (.list (ps.map pairD)) ∧ Shuf ps ∧ ∀ (H' : Hp), Same H H' → Q (.int (((ps.filter unl).length + (ringsM (ps.filter unl)).length : Nat) : Int)) H'
theorem b_fewest (T : TRs K mg) : Body P w K mg base 6 "fewest_moves" s_fewest_moves ["shuffle"] sp_fewest := by
  intro f cdv A outer st H vs Q E hr h
  refine ⟨_, (pss_cons (ps_expr (pe_s (c_ask_shuffle T.rg.rf.tv.to.tf.tr.tm) hr (pa_cons (pv 0) pa_nil)))
    (pss_one (ps_ret (pe_op op_add (pe_callB call_len_seq (by rfl) T.rg.rf.tv.to.tf.tr.tm.b_len (by decide +kernel) (pa_cons (pe_s (c_unlike_pairs T.rg.rf.tv.to.tf.tr) hr (pa_cons (pv 0) pa_nil)) pa_nil)) (pe_callB call_len_seq (by rfl) T.rg.rf.tv.to.tf.tr.tm.b_len (by decide +kernel) (pa_cons (pe_s (c_rings_of T.rg) hr (pa_cons (pv 0) pa_nil)) pa_nil)))))), ?_⟩
  obtain ⟨v, ps, rfl, hd, S, q⟩ := h
  have few := S.few
  refine ⟨_, rfl, v, ps, rfl, hd, S, fun H1 s1 => ?_⟩
  refine ⟨_, rfl, v, ps, rfl, hd.same s1 _, by omega, fun u H2 nu s2 du => ?_⟩
  obtain ⟨xs, hu, ru⟩ := du.lst'
  have lu := ru.length
  refine ⟨u, xs, rfl, .inl (SqL.of hu), ?_⟩
  refine ⟨_, rfl, v, ps, rfl, hd.same (s1.trans s2) _, S, fun p H3 np s3 r => ?_⟩
  obtain ⟨as, hp, pa⟩ := r
  have lp := Paired.len pa
  refine ⟨p, _, rfl, .inl (SqL.of hp), _, _, rfl, rfl, ?_⟩
  have := q H3 ((s1.trans s2).trans s3)
  rw [List.length_map, lp, lu, List.length_map]
  rw [Int.natCast_add] at this
  exact this
theorem c_fewest (T : TRs K mg) : Says P w K mg base 7 "fewest_moves" ["shuffle"] sp_fewest := says T.d_fewest sc_fewest_moves (fun vs H Q E h => by obtain ⟨_, _, rfl, _⟩ := h; rfl) (b_fewest T)
theorem k_fewest (T : TRs K mg) : SaysK P w K mg base 7 "fewest_moves" ["shuffle"] ["shuffle"] (fun l => l) sp_fewest := saysK T.k_fewest sc_fewest_moves (fun vs H Q E h => by obtain ⟨_, _, rfl, _⟩ := h; rfl) (b_fewest T)
end
end Cb
set_option Elab.async false
set_option linter.all false
set_option maxRecDepth 100000
set_option maxHeartbeats 4000000
namespace Cb
open PySem PySem.Spec PyProof.Rows L2
abbrev s_l_hash : Stmt := topS 25
theorem sc_l_hash : FnScope ["_law_seed", "_law_index", "_law_mixed"] ["_law_seed", "_law_index"] (defScope s_l_hash) := ⟨rfl, rfl, rfl, by decide +kernel, rfl, by decide +kernel, by decide +kernel⟩
abbrev s_l_random : Stmt := topS 26
theorem sc_l_random : FnScope ["_law_generator_here", "_law_bound", "_law_drawn", "_law_turn"] ["_law_generator_here", "_law_bound"] (defScope s_l_random) := ⟨rfl, rfl, rfl, by decide +kernel, rfl, by decide +kernel, by decide +kernel⟩
abbrev s_l_cell : Stmt := topS 27
theorem sc_l_cell : FnScope ["_law_script", "_law_index"] ["_law_script", "_law_index"] (defScope s_l_cell) := ⟨rfl, rfl, rfl, by decide +kernel, rfl, by decide +kernel, by decide +kernel⟩
abbrev s_l_generator : Stmt := topS 28
theorem sc_l_generator : FnScope ["_law_script", "_law_index", "_law_seed"] ["_law_script", "_law_index"] (defScope s_l_generator) := ⟨rfl, rfl, rfl, by decide +kernel, rfl, by decide +kernel, by decide +kernel⟩
structure TGen (K : PySem.W.Frag) (mg : Str → Option Value) : Prop where
  d_l_hash : Has K mg "_law_hash" s_l_hash ["_law_seed", "_law_index"]
  d_l_random : Has K mg "_law_random" s_l_random ["_law_generator_here", "_law_bound"]
  d_l_cell : Has K mg "_law_cell" s_l_cell ["_law_script", "_law_index"]
  d_l_generator : Has K mg "_law_generator" s_l_generator ["_law_script", "_law_index"]
  b_int : mg "int" = none
  b_range : mg "range" = none
  b_len : mg "len" = none
  b_sum : mg "sum" = none
  b_max : mg "max" = none
/-- a generator: three numbers -/
def gen (a s t : Int) : HO := .lst [.int a, .int s, .int t]
local macro_rules | `(tactic| walk_at "rd1") => `(tactic| first
  | with_reducible_and_instances refine ⟨_, rfl, ?_⟩
  | refine ⟨_, rfl, ?_⟩
  | refine ⟨_, _, rfl, rfl, ?_⟩
  | refine .inl ⟨_, rfl, ?_⟩
  | (refine ⟨by first | decide | omega | exact .inl (by decide) | exact .inr (by decide) | exact .inl (by omega) | exact .inr (by omega) | exact ⟨by decide, by decide⟩, ?_⟩))
local macro_rules | `(tactic| walk_at "rd") => `(tactic| repeat walk_at "rd1")
section
variable {P : Program} {w : World} {K : PySem.W.Frag} {mg : Str → Option Value} {base : Heap}
def sp_l_hash : Sp := fun vs H Q _ => ∃ s i : Int, vs = [.int s, .int i] ∧ 0 ≤ i ∧ i < 2 ^ 63 ∧ ∀ r : Int, Q (.int r) H
theorem mod_in {m b : Int} (h : 0 < b) : 0 ≤ m % b ∧ m % b < b := ⟨Int.emod_nonneg _ (by omega), Int.emod_lt_of_pos _ h⟩
theorem cut_first (ns : List Int) : cutV (ns.map V.int) none (some 1) = (ns.take 1).map V.int := by
  unfold cutV
  rw [show HT.sIx (ns.map V.int).length 0 none = 0 from HT.sIx_none _ _, show HT.sIx (ns.map V.int).length (ns.map V.int).length (some 1) = min 1 (ns.map V.int).length from HT.sIx_nat _ _ 1]
  cases ns with
  | nil => rfl
  | cons x r => simp
theorem c_l_hash (T : TGen K mg) : Says P w K mg base 1 "_law_hash" ["_law_seed", "_law_index"] sp_l_hash := by
  refine says T.d_l_hash sc_l_hash (fun vs H Q E h => ?_) (fun f cdv A outer s H vs Q E hr h => ?_)
  · obtain ⟨_, _, rfl, _⟩ := h; rfl
  · refine ⟨_, (pss_cons (ps_set (i := 2) sc_l_hash.nd rfl (.inl rfl) (pe_op op_mod (pe_callTy call_int1 (by rfl) T.b_int (by decide +kernel) (pa_cons (pe_op op_add (pe_op op_add (pe_op op_add (pe_op op_mul (pv 0) pe_int) (pe_op op_mul (pe_op op_mul pe_int (pv 1)) (pv 1))) (pe_op op_mul pe_int (pv 1))) pe_int) pa_nil)) pe_int))
      (pss_cons (ps_set (i := 2) sc_l_hash.nd rfl (.inl rfl) (pe_op op_mod (pe_callTy call_int1 (by rfl) T.b_int (by decide +kernel) (pa_cons (pe_op op_add (pe_op op_add (pe_op op_mul (pv 2) (pv 2)) (pe_op op_mul pe_int (pv 1))) pe_int) pa_nil)) pe_int))
      (pss_one (ps_ret (pe_op op_mod (pe_callTy call_int1 (by rfl) T.b_int (by decide +kernel) (pa_cons (pe_op op_mul (pv 2) pe_int) pa_nil)) pe_int))))), ?_⟩
    obtain ⟨s, i, rfl, h0, h1, q⟩ := h
    walk_at "rd"
    have hm := @mod_in (s * 1140671 + 27644437 * i * i + 131 * i + 19) 2147483629 (by decide)
    generalize (s * 1140671 + 27644437 * i * i + 131 * i + 19) % 2147483629 = m at hm ⊢
    walk_at "rd"
    exact q _

/-- a draw: some number below the bound; the generator goes on -/
@[irreducible] def sp_l_random : Sp := fun vs H Q _ => ∃ (p : Addr) (a s t b : Int), vs = [.ref p, .int b] ∧ H p = some (gen a s t) ∧ 0 < b ∧ b.natAbs < 2 ^ 210 ∧ 0 ≤ t ∧ t < 2 ^ 62 ∧
  ∀ r a' t' : Int, 0 ≤ r → r < b → t ≤ t' → t' ≤ t + 8 → Q (.int r) (upd H p (gen a' s t'))
theorem c_l_random (T : TGen K mg) : Says P w K mg base 2 "_law_random" ["_law_generator_here", "_law_bound"] sp_l_random := by
  refine says T.d_l_random sc_l_random (fun vs H Q E h => ?_) (fun f cdv A outer s H vs Q E hr h => ?_) <;> unfold sp_l_random at h
  · obtain ⟨_, _, _, _, _, rfl, _⟩ := h; rfl
  · refine ⟨_, (pss_cons (ps_if (pt_cmpR op_gt (pe_ix ix_list (pv 0) pe_int (fun _ _ => rfl)) pe_int (nomark _))
        (pss_cons (ps_set (i := 2) sc_l_random.nd rfl (.inl rfl) (pe_op op_mod (pe_callTy call_int1 (by rfl) T.b_int (by decide +kernel) (pa_cons (pe_ix ix_list (pv 0) pe_int (fun _ _ => rfl)) pa_nil)) (pv 1)))
        (pss_cons (ps_asg (pe_op op_fdivA (pe_ix ix_list (pv 0) pe_int (fun _ _ => rfl)) (pv 1)) (pg_sub (pv 0) pe_int set_list))
        (pss_one (ps_ret (pv 2)))))
        pss_nil)
      (pss_cons (ps_set (i := 2) sc_l_random.nd rfl (.inl rfl) pe_int)
      (pss_cons (ps_for PassesOwn.never rfl (pi_range1 (by rfl) T.b_range (pa_cons (pe_op op_add pe_int (pe_op op_fdiv (pe_bits (pv 1)) pe_int)) pa_nil)) (pg_name (i := 3) sc_l_random.nd rfl (.inl rfl))
        (pss_cons (ps_asg (pe_op op_add (pe_ix ix_list (pv 0) pe_int (fun _ _ => rfl)) pe_int) (pg_sub (pv 0) pe_int set_list))
        (pss_one (ps_set (i := 2) sc_l_random.nd rfl (.inl rfl) (pe_op op_add (pe_op op_mul (pv 2) pe_int) (pe_s (c_l_hash T) hr (pa_cons (pe_ix ix_list (pv 0) pe_int (fun _ _ => rfl)) (pa_cons (pe_ix ix_list (pv 0) pe_int (fun _ _ => rfl)) pa_nil))))))))
      (pss_one (ps_ret (pe_op op_mod (pe_callTy call_int1 (by rfl) T.b_int (by decide +kernel) (pa_cons (pv 2) pa_nil)) (pv 1))))))), ?_⟩
    obtain ⟨p, a, s, t, b, rfl, hp, b0, b1, t0, t1, q⟩ := h
    have bl : Builtin.Int.intBits b ≤ 210 := PyProof.Rows.intBits_le b1
    refine ⟨_, rfl, _, _, _, _, rfl, rfl, SqL.of hp, rfl, _, _, rfl, rfl, _, rfl, ite2 (fun _ => ?_) (fun _ => ?_)⟩
    · refine ⟨_, rfl, _, _, _, _, rfl, rfl, SqL.of hp, rfl, .inl ⟨_, rfl, ?_⟩⟩
      refine ⟨_, rfl, _, _, rfl, rfl, b0, ?_⟩
      refine ⟨_, rfl, _, _, _, _, rfl, rfl, SqL.of hp, rfl, _, rfl, _, _, rfl, rfl, ⟨by omega, Nat.lt_of_lt_of_le (PySem.Flt.log2_lt_of (by decide) b1) (by decide)⟩, ?_⟩
      refine ⟨_, rfl, _, _, _, _, rfl, rfl, hp, rfl, ?_⟩
      refine ⟨_, rfl, ?_⟩
      exact q _ _ t (mod_in b0).1 (mod_in b0).2 (by omega) (by omega)
    · refine ⟨_, rfl, _, rfl, _, _, rfl, rfl, ⟨by decide, by decide⟩, _, _, rfl, rfl, _, rfl, ?_, ?_, ?_⟩
      · show -(2 ^ 62) ≤ 1 + ((Builtin.Int.intBits b : Nat) : Int) / 30
        omega
      · show 1 + ((Builtin.Int.intBits b : Nat) : Int) / 30 < 2 ^ 62
        omega
      · refine for_range (lo := 0) (fun i σ H' => ∃ (d t' : Int) (v : Option V), σ = [some (.ref p), some (.int b), some (.int d), v] ∧ t' = t + i ∧ H' = upd H p (gen a s t')) ⟨0, t, none, rfl, by omega, (upd_self hp).symm⟩ ?_ ?_
        · rintro i σ H' hi ⟨d, t', v, rfl, rfl, rfl⟩
          have hi8 : i < (1 + ((Builtin.Int.intBits b : Nat) : Int) / 30).toNat := hi
          refine ⟨_, rfl, _, _, _, _, rfl, rfl, SqL.of upd_same, rfl, _, _, rfl, rfl, ?_⟩
          refine ⟨_, rfl, _, _, _, _, rfl, rfl, upd_same, rfl, ?_⟩
          rw [upd_upd]
          refine ⟨_, rfl, _, _, rfl, rfl, .inr (by decide), ?_⟩
          refine ⟨_, rfl, _, _, _, _, rfl, rfl, SqL.of upd_same, rfl, _, rfl, _, _, _, _, rfl, rfl, SqL.of upd_same, rfl, ?_⟩
          refine ⟨_, _, rfl, by omega, by omega, fun r => ?_⟩
          refine ⟨_, _, rfl, rfl, ?_⟩
          exact ⟨_, t + i + 1, _, rfl, by omega, rfl⟩
        · rintro σ H' ⟨d, t', v, rfl, rfl, rfl⟩
          refine ⟨_, rfl, .inl ⟨_, rfl, ?_⟩⟩
          refine ⟨_, rfl, _, _, rfl, rfl, b0, ?_⟩
          have hn : ((1 + ((Builtin.Int.intBits b : Nat) : Int) / 30).toNat : Int) ≤ 8 := by omega
          exact q _ a _ (mod_in b0).1 (mod_in b0).2 (Int.le_add_of_nonneg_right (Int.natCast_nonneg _)) (Int.add_le_add_left hn t)
def sp_l_cell (K : PySem.W.Frag) : Sp := fun vs H Q _ => ∃ (p : Addr) (ns : List Int) (i : Int), vs = [.ref p, .int i] ∧ SqL K H p (ns.map V.int) ∧ 0 ≤ i ∧ ∀ (r : Int) (H' : Hp), Same H H' → Q (.int r) H'
theorem c_l_cell (T : TGen K mg) : Says P w K mg base 1 "_law_cell" ["_law_script", "_law_index"] (sp_l_cell K) := by
  refine says T.d_l_cell sc_l_cell (fun vs H Q E h => ?_) (fun f cdv A outer s H vs Q E hr h => ?_)
  · obtain ⟨_, _, _, rfl, _⟩ := h; rfl
  · refine ⟨_, (pss_cons (ps_if (pt_cmpR op_lt (pv 1) (pe_callB call_len_seq (by rfl) T.b_len (by decide +kernel) (pa_cons (pv 0) pa_nil)) (nomark _))
        (pss_one (ps_ret (pe_ix ix_list (pv 0) (pv 1) (fun _ _ => rfl))))
        pss_nil)
      (pss_one (ps_ret (pe_op op_mod (pe_callB (cr_sum rfl) (by rfl) T.b_sum (by decide +kernel) (pa_cons (pe_slice sl_list (pv 0) po_none (po_some pe_int)) pa_nil)) pe_int)))), ?_⟩
    obtain ⟨p, ns, i, rfl, hp, i0, q⟩ := h
    refine ⟨_, rfl, _, rfl, _, _, rfl, .inl hp, _, _, rfl, rfl, _, rfl, ite2 (fun lt => ?_) (fun _ => ?_)⟩
    · have lt2 : i < ((ns.map V.int).length : Int) := of_decide_eq_true lt
      rw [List.length_map] at lt2
      have e : atI (ns.map V.int) i = some (.int (ns[i.toNat]'(by omega))) := by
        have z := atI_nat (xs := ns.map V.int) (j := i.toNat) (v := .int (ns[i.toNat]'(by omega))) (by rw [List.getElem?_map, List.getElem?_eq_getElem (by omega)]; rfl)
        rwa [Int.toNat_of_nonneg i0] at z
      refine ⟨_, rfl, _, rfl, _, _, _, _, rfl, rfl, hp, e, ?_⟩
      exact q _ _ (Same.refl _)
    · refine ⟨_, rfl, 1, rfl, _, _, rfl, hp, fun l hl => ?_⟩
      refine ⟨_, (ns.take 1), rfl, ?_, ?_⟩
      · rw [← cut_first]
        exact SqL.of upd_same
      · refine ⟨_, _, rfl, rfl, (show (0 : Int) < 1000003 by decide), ?_⟩
        exact q _ _ (same_new hl)
/-- a new generator -/
def sp_l_generator (K : PySem.W.Frag) : Sp := fun vs H Q _ => ∃ (p : Addr) (ns : List Int) (i : Int), vs = [.ref p, .int i] ∧ SqL K H p (ns.map V.int) ∧ 0 ≤ i ∧ i < 1000 ∧
  ∀ (g : Addr) (a s : Int) (H' : Hp), H g = none → Same H H' → H' g = some (gen a s (1000 * i)) → Q (.ref g) H'
theorem c_l_generator (T : TGen K mg) : Says P w K mg base 2 "_law_generator" ["_law_script", "_law_index"] (sp_l_generator K) := by
  refine says T.d_l_generator sc_l_generator (fun vs H Q E h => ?_) (fun f cdv A outer s H vs Q E hr h => ?_)
  · obtain ⟨_, _, _, rfl, _⟩ := h; rfl
  · refine ⟨_, (pss_cons (ps_set (i := 2) sc_l_generator.nd rfl (.inl rfl) (pe_s (c_l_cell T) hr (pa_cons (pv 0) (pa_cons (pv 1) pa_nil))))
      (pss_one (ps_ret (pe_lst (pa_cons (pe_op op_mod (pe_callTy call_int1 (by rfl) T.b_int (by decide +kernel) (pa_cons (pe_callB (call_max2 rfl) (by rfl) T.b_max (by decide +kernel) (pa_cons (pe_op op_sub (pv 2) (pe_op op_powA pe_int pe_int)) (pa_cons pe_int pa_nil))) pa_nil)) (pe_op op_powA (pe_op op_powA pe_int pe_int) pe_int)) (pa_cons (pe_op op_mod (pe_callTy call_int1 (by rfl) T.b_int (by decide +kernel) (pa_cons (pv 2) pa_nil)) pe_int) (pa_cons (pe_op op_mul pe_int (pv 1)) pa_nil))))))), ?_⟩
    obtain ⟨p, ns, i, rfl, hp, i0, i1, q⟩ := h
    refine ⟨_, rfl, _, rfl, _, _, _, rfl, hp, i0, fun r H1 s1 => ?_⟩
    refine ⟨_, rfl, _, _, rfl, rfl, ⟨by decide, by decide +kernel⟩, _, _, rfl, rfl, ?_⟩
    refine ⟨_, _, rfl, .inl ⟨_, rfl, ?_⟩⟩
    refine ⟨_, _, rfl, rfl, ⟨by decide, by decide +kernel⟩, _, _, rfl, rfl, ⟨by decide, by decide +kernel⟩, ?_⟩
    refine ⟨_, _, rfl, rfl, (show (0 : Int) < ((10 ^ Int.toNat 60) ^ Int.toNat 10) by decide +kernel), ?_⟩
    refine ⟨_, rfl, .inl ⟨_, rfl, _, _, rfl, rfl, (show (0 : Int) < 2147483647 by decide), ?_⟩⟩
    refine ⟨_, rfl, _, _, rfl, rfl, .inl (by decide), ?_⟩
    refine ⟨(show 3 ≤ sizeLine by decide), fun g hg => ?_⟩
    exact q g _ _ _ (s1.free hg) (s1.trans (same_new hg)) upd_same
end
end Cb
set_option Elab.async false
set_option linter.all false
set_option maxRecDepth 100000
set_option maxHeartbeats 4000000
namespace Cb
open PySem PySem.Spec PyProof.Rows L2
/-! ### the generator goes on -/
def Gn (g : Addr) (s t0 : Int) (n : Nat) (H : Hp) : Prop := ∃ a t : Int, H g = some (gen a s t) ∧ t0 ≤ t ∧ t ≤ t0 + n
theorem Gn.mono {g : Addr} {s t0 : Int} {n m : Nat} {H : Hp} (G : Gn g s t0 n H) (h : n ≤ m) : Gn g s t0 m H := by
  obtain ⟨a, t, e, l1, l2⟩ := G
  exact ⟨a, t, e, l1, by omega⟩
theorem Gn.some {g : Addr} {s t0 : Int} {n : Nat} {H : Hp} (G : Gn g s t0 n H) {p : Addr} (h : H p = none) : p ≠ g := by
  obtain ⟨a, t, e, _⟩ := G
  exact (ne_of_none e h).symm
theorem Gn.new {g : Addr} {s t0 : Int} {n : Nat} {H : Hp} (G : Gn g s t0 n H) {p : Addr} {o : HO} (h : H p = none) : Gn g s t0 n (upd H p o) := by
  obtain ⟨a, t, e, l⟩ := G
  exact ⟨a, t, same_new h _ _ e, l⟩
theorem Gn.off {g : Addr} {s t0 : Int} {n : Nat} {H : Hp} (G : Gn g s t0 n H) {p : Addr} {o : HO} (h : g ≠ p) : Gn g s t0 n (upd H p o) := by
  obtain ⟨a, t, e, l⟩ := G
  exact ⟨a, t, (upd_ne h).trans e, l⟩
theorem Gn.same {g : Addr} {s t0 : Int} {n : Nat} {H H' : Hp} (G : Gn g s t0 n H) (k : Same H H') : Gn g s t0 n H' := by
  obtain ⟨a, t, e, l⟩ := G
  exact ⟨a, t, k _ _ e, l⟩
theorem draw {g : Addr} {s t0 : Int} {n : Nat} {H : Hp} {b : Int} {Q : VK} {E : XK} (G : Gn g s t0 n H) (h0 : 0 ≤ t0) (h1 : t0 + n < 2 ^ 62) (b0 : 0 < b) (b1 : b.natAbs < 2 ^ 210)
    (q : ∀ (r : Int) (H' : Hp), 0 ≤ r → r < b → Gn g s t0 (n + 8) H' → Keep [g] H H' → Q (.int r) H') : sp_l_random [.ref g, .int b] H Q E := by
  obtain ⟨a, t, e, l1, l2⟩ := G
  unfold sp_l_random
  refine ⟨g, a, s, t, b, rfl, e, b0, b1, by omega, by omega, fun r a' t' r0 r1 t2 t3 => ?_⟩
  exact q r _ r0 r1 ⟨a', t', upd_same, by omega, by omega⟩ (keep_upd (by simp))
end Cb
set_option Elab.async false
set_option linter.all false
set_option maxRecDepth 100000
set_option maxHeartbeats 4000000
namespace Cb
open PySem PySem.Calls PySem.Spec PyProof.Rows L2
/-! ### list(zip(xs, ys)) of two lists -/
theorem nolen_zip : typeLookup (.type "zip") "__len__" = pure none := by rw [typeLookup_type, builtinLookup_eq_fast]; kernel_rfl
theorem nohint_zip : typeLookup (.type "zip") "__length_hint__" = pure none := by rw [typeLookup_type, builtinLookup_eq_fast]; kernel_rfl
def ZSt (z TI TO i1 i2 l1 l2 S : Addr) (xs ys : Array Value) (i : Nat) (h : Heap) : Prop :=
  IsPair h TI (.ref i1) (.ref i2) ∧ h.IsListIter i1 l1 i ∧ h.IsListIter i2 l2 i ∧ h.IsList l1 xs ∧ h.IsList l2 ys ∧
    ((IsZip h z TI TO .none ∧ ∃ a b, IsPair h TO a b) ∨ ∃ T f oT, IsZipHeld h z TI TO T f ∧ h.get? T = some oT ∧ T ≠ z ∧ T ≠ i1 ∧ T ≠ i2 ∧ T ≠ S)
structure ZOff (z TI TO i1 i2 l1 l2 S : Addr) : Prop where
  z : z < S
  TI : TI < S
  TO : TO < S
  i1 : i1 < S
  i2 : i2 < S
  l1 : l1 < S
  l2 : l2 < S
structure ZG (vs : List (Value × Value)) (lo : Addr) (h : Heap) (as : List Addr) : Prop where
  rise : as.Pairwise (· < ·)
  above : ∀ a ∈ as, lo < a
  pairs : ∀ (j : Nat) (a : Addr), as[j]? = some a → ∃ x y, vs[j]? = some (x, y) ∧ h.get? a = some { cls := .type "tuple", data := .seq #[x, y] }
theorem ZG.there {vs : List (Value × Value)} {lo : Addr} {h : Heap} {as : List Addr} (g : ZG vs lo h as) {a : Addr} (ha : a ∈ as) : a < h.objs.size := by
  obtain ⟨j, hj⟩ := List.mem_iff_getElem?.mp ha
  obtain ⟨_, _, _, e⟩ := g.pairs j a hj
  exact Heap.lt_size e
section
variable {prog : Program} {w : World} {A : Around} {E : Value → Shared → Prop} {s : Shared} {z TI TO i1 i2 l1 l2 S : Addr} {xs ys : Array Value} {i : Nat}
theorem ZSt.frame {h h' : Heap} (O : ZOff z TI TO i1 i2 l1 l2 S) (st : ZSt z TI TO i1 i2 l1 l2 S xs ys i h) (hk : ∀ b o, b ≠ S → h.get? b = some o → h'.get? b = some o) : ZSt z TI TO i1 i2 l1 l2 S xs ys i h' := by
  obtain ⟨hTI, h1, h2, hl1, hl2, hz⟩ := st
  refine ⟨hk _ _ (Nat.ne_of_lt O.TI) hTI, h1.at fun o e => hk _ o (Nat.ne_of_lt O.i1) e, h2.at fun o e => hk _ o (Nat.ne_of_lt O.i2) e, hl1.at fun o e => hk _ o (Nat.ne_of_lt O.l1) e, hl2.at fun o e => hk _ o (Nat.ne_of_lt O.l2) e, ?_⟩
  rcases hz with ⟨hz, a, b, hTO⟩ | ⟨T, f, oT, hz, hT, r1, r2, r3, r4⟩
  · exact .inl ⟨hk _ _ (Nat.ne_of_lt O.z) hz, a, b, hk _ _ (Nat.ne_of_lt O.TO) hTO⟩
  · exact .inr ⟨T, f, oT, hk _ _ (Nat.ne_of_lt O.z) hz, hk _ _ r4 hT, r1, r2, r3, r4⟩
theorem z_item {x y : Value} {Q : Option Value → Shared → Prop} (D : ZipApart z TI TO i1 i2 l1 l2) (st : ZSt z TI TO i1 i2 l1 l2 S xs ys i s.heap) (hds : S < s.heap.objs.size) (ex : xs[i]? = some x) (ey : ys[i]? = some y)
    (hQ : ∀ h', ZSt z TI TO i1 i2 l1 l2 S xs ys (i + 1) h' → h'.get? s.heap.objs.size = some { cls := .type "tuple", data := .seq #[x, y] } → h'.objs.size = s.heap.objs.size + 1 →
      (∀ c o, c ≠ z → c ≠ TO → c ≠ i1 → c ≠ i2 → s.heap.get? c = some o → h'.get? c = some o) → Q (some (.ref s.heap.objs.size)) { s with heap := h' }) :
    wpAny (model prog w) A (pyNext (.ref z)) Q E s := by
  obtain ⟨hTI, h1, h2, hl1, hl2, hz⟩ := st
  have lt : ∀ {c o}, s.heap.get? c = some o → s.heap.objs.size ≠ c := fun e => Nat.ne_of_gt (Heap.lt_size e)
  have n1 : s.heap.objs.size ≠ i1 := let ⟨_, e, _⟩ := h1; lt e
  have n2 : s.heap.objs.size ≠ i2 := let ⟨_, e, _⟩ := h2; lt e
  rcases hz with ⟨hz, a, b, hTO⟩ | ⟨T, f, oT, hz, hT, r1, r2, r3, r4⟩
  · refine wpAny_pyNext_zip_item D hz hTI hTO h1 h2 hl1 hl2 ex ey fun h' a1 a2 a3 a4 a5 a6 hk => ?_
    exact hQ h' ⟨hk _ _ D.TIz D.TITO D.TIi1 D.TIi2 hTI, a3, a4, hl1.at fun o e => hk _ o D.l1z D.l1TO D.l1i1 D.l1i2 e, hl2.at fun o e => hk _ o D.l2z D.l2TO D.l2i1 D.l2i2 e,
      .inr ⟨s.heap.objs.size, false, _, a1, a5, lt hz, n1, n2, Nat.ne_of_gt hds⟩⟩ a5 a6 fun c o c1 c2 c3 c4 e => hk c o c1 c2 c3 c4 e
  · refine wpAny_pyNext_zip_item_held D hz hT hTI h1 h2 hl1 hl2 ex ey fun h' a1 a3 a4 a5 a6 hk => ?_
    exact hQ h' ⟨hk _ _ D.TIz D.TIi1 D.TIi2 hTI, a3, a4, hl1.at fun o e => hk _ o D.l1z D.l1i1 D.l1i2 e, hl2.at fun o e => hk _ o D.l2z D.l2i1 D.l2i2 e,
      .inr ⟨T, true, oT, a1, hk _ _ r1 r2 r3 hT, r1, r2, r3, r4⟩⟩ a5 a6 fun c o c1 _ c3 c4 e => hk c o c1 c3 c4 e
theorem z_done {Q : Option Value → Shared → Prop} (hA : A.handled = none) (D : ZipApart z TI TO i1 i2 l1 l2) (st : ZSt z TI TO i1 i2 l1 l2 S xs ys i s.heap) (hend : xs[i]? = none)
    (hQ : ∀ h', (∀ c o, c ≠ z → c ≠ TO → c ≠ i1 → c ≠ i2 → s.heap.get? c = some o → h'.get? c = some o) → Q none { s with heap := h' }) :
    wpAny (model prog w) A (pyNext (.ref z)) Q E s := by
  obtain ⟨hTI, h1, h2, hl1, hl2, hz⟩ := st
  rcases hz with ⟨hz, a, b, hTO⟩ | ⟨T, f, oT, hz, hT, r1, r2, r3, r4⟩
  · exact wpAny_pyNext_zip_end hA D hz hTI hTO h1 h2 hl1 hl2 (.inl hend) fun h' hk => hQ h' fun c o c1 c2 c3 c4 e => hk c o c1 c2 c3 c4 e
  · exact wpAny_pyNext_zip_end_held hA D hz hT hTI h1 h2 hl1 hl2 (.inl hend) fun h' hk => hQ h' fun c o c1 c2 c3 c4 e => hk c o c1 c3 c4 e
theorem z_loop {R : Result → Shared → Prop} {vs : List (Value × Value)} (hh : A.handled = none) (D : ZipApart z TI TO i1 i2 l1 l2) (O : ZOff z TI TO i1 i2 l1 l2 S) (sx : xs.size = vs.length) (hv : ∀ (j : Nat) (p : Value × Value), vs[j]? = some p → xs[j]? = some p.1 ∧ ys[j]? = some p.2) (hn : vs.length ≤ sizeLine) (res : Value) {h₁ : Heap}
    (hR : ∀ h' tk acc c as, (∀ b o, b ≠ S → b ≠ z → b ≠ TO → b ≠ i1 → b ≠ i2 → h₁.get? b = some o → h'.get? b = some o) → h'.get? S = some { cls := .type "list", dict := none, data := .seq acc c, slots := #[] } → as.length = vs.length → ZG vs S h' as →
      acc.toList = as.map Value.ref → R (.ok (.ret res)) { s with heap := h', toks := tk }) :
    ∀ (k i : Nat) (h : Heap) (tk c : Nat) (acc : Array Value) (as : List Addr), vs.length - i = k → i ≤ vs.length → ZSt z TI TO i1 i2 l1 l2 S xs ys i h → (∀ b o, b ≠ S → b ≠ z → b ≠ TO → b ≠ i1 → b ≠ i2 → h₁.get? b = some o → h.get? b = some o) →
      h.get? S = some { cls := .type "list", dict := none, data := .seq acc c, slots := #[] } → acc.toList = as.map Value.ref → as.length = i → ZG vs S h as →
      codeAny (model prog w) A (.builtin "list.extend.loop" ⟨[.ref S, .ref z, res], []⟩) R { s with heap := h, toks := tk } := by
  have far : ∀ {b : Addr}, S < b → b ≠ z ∧ b ≠ TO ∧ b ≠ i1 ∧ b ≠ i2 := fun {b} hb =>
    ⟨Nat.ne_of_gt (Nat.lt_trans O.z hb), Nat.ne_of_gt (Nat.lt_trans O.TO hb), Nat.ne_of_gt (Nat.lt_trans O.i1 hb), Nat.ne_of_gt (Nat.lt_trans O.i2 hb)⟩
  have sS : S ≠ z ∧ S ≠ TO ∧ S ≠ i1 ∧ S ≠ i2 := ⟨Nat.ne_of_gt O.z, Nat.ne_of_gt O.TO, Nat.ne_of_gt O.i1, Nat.ne_of_gt O.i2⟩
  intro k
  induction k with
  | zero =>
    intro i h tk c acc as hk hi hst hkeep hS hacc hal hG
    have hin : i = vs.length := by omega
    refine codeAny_builtin PySem.F.entry_extend_loop ?_
    rw [Around.under_plainId PySem.F.plain_extend_loop _]
    show wpAny _ A.in1 (pyNext (.ref z) >>= _) _ _ _
    refine wpAny_bind (z_done (s := { s with heap := h, toks := tk }) (A := A.in1) hh D hst (Array.getElem?_eq_none (by omega)) fun h' he => ?_)
    refine wpAny_pure (hR h' tk acc c as (fun b o h1 h2 h3 h4 h5 e => he b o h2 h3 h4 h5 (hkeep b o h1 h2 h3 h4 h5 e)) (he S _ sS.1 sS.2.1 sS.2.2.1 sS.2.2.2 hS) (by omega) ⟨hG.rise, hG.above, fun j a hj => ?_⟩ hacc)
    obtain ⟨x, y, e1, e3⟩ := hG.pairs j a hj
    obtain ⟨f1, f2, f3, f4⟩ := far (hG.above a (List.mem_of_getElem? hj))
    exact ⟨x, y, e1, he a _ f1 f2 f3 f4 e3⟩
  | succ k ih =>
    intro i h tk c acc as hk hi hst hkeep hS hacc hal hG
    have hlt : i < vs.length := by omega
    obtain ⟨⟨x, y⟩, hx⟩ : ∃ p, vs[i]? = some p := ⟨vs[i], List.getElem?_eq_getElem hlt⟩
    obtain ⟨hx1, hx2⟩ := hv i _ hx
    have hsz : acc.size = i := by rw [← Array.length_toList, hacc, List.length_map, hal]
    refine codeAny_builtin PySem.F.entry_extend_loop ?_
    rw [Around.under_plainId PySem.F.plain_extend_loop _]
    show wpAny _ A.in1 (pyNext (.ref z) >>= _) _ _ _
    refine wpAny_bind (z_item (s := { s with heap := h, toks := tk }) (S := S) D hst (Heap.lt_size hS) hx1 hx2 fun h' hst' ht hz hkp => ?_)
    dsimp only at ht hz hkp ⊢
    have hS' := hkp S _ sS.1 sS.2.1 sS.2.2.1 sS.2.2.2 hS
    have up : ∀ b o, b ≠ S → h'.get? b = some o → (h'.update S (Obj.mapSeq (·.push (Value.ref h.objs.size)))).get? b = some o := fun b o hb e => (Heap.get?_update_other _ _ (Ne.symm hb)).trans e
    have hSl : S < h.objs.size := Heap.lt_size hS
    show wpAny _ A.in1 (updateSeq S (·.push (Value.ref h.objs.size)) >>= _) _ _ _
    refine wpAny_bind ?_
    refine wpAny_updateSeq hS' rfl (wpAny_pure ⟨plainId_quiet PySem.F.plain_extend_loop _, ih (i + 1) _ tk _ (acc.push (Value.ref h.objs.size)) (as ++ [h.objs.size]) (by omega) hlt (hst'.frame O up)
      (fun b o h1 h2 h3 h4 h5 e => up b o h1 (hkp b o h2 h3 h4 h5 (hkeep b o h1 h2 h3 h4 h5 e))) (Heap.get?_update_self _ hS' rfl) (by rw [Array.toList_push, hacc, List.map_append]; rfl) (by rw [List.length_append, hal]; rfl) ⟨?_, ?_, ?_⟩⟩) (by rw [hsz]; omega) (by show (acc.push (Value.ref h.objs.size)).size ≤ sizeLine + 1; rw [Array.size_push]; omega)
    · refine List.pairwise_append.mpr ⟨hG.rise, List.pairwise_singleton _ _, fun a ha b hb => ?_⟩
      rw [List.mem_singleton.mp hb]
      exact hG.there ha
    · intro a ha
      rcases List.mem_append.mp ha with ha | ha
      · exact hG.above a ha
      · rw [List.mem_singleton.mp ha]; exact hSl
    · intro j b hj
      rcases Nat.lt_trichotomy j as.length with h1 | h1 | h1
      · rw [List.getElem?_append_left h1] at hj
        obtain ⟨x', y', e1, e3⟩ := hG.pairs j b hj
        have hb := hG.above b (List.mem_of_getElem? hj)
        obtain ⟨f1, f2, f3, f4⟩ := far hb
        exact ⟨x', y', e1, up b _ (Nat.ne_of_gt hb) (hkp b _ f1 f2 f3 f4 e3)⟩
      · subst h1
        have hb : h.objs.size = b := by simpa using hj
        subst hb
        exact ⟨x, y, by rw [hal]; exact hx, up _ _ (Nat.ne_of_gt hSl) ht⟩
      · have hnone : (as ++ [h.objs.size])[j]? = none := List.getElem?_eq_none (by rw [List.length_append, List.length_singleton]; omega)
        rw [hnone] at hj; cases hj
theorem z_extend {R : Result → Shared → Prop} {vs : List (Value × Value)} (hh : A.handled = none) (D : ZipApart z TI TO i1 i2 l1 l2) (O : ZOff z TI TO i1 i2 l1 l2 S) (sx : xs.size = vs.length) (hv : ∀ (j : Nat) (p : Value × Value), vs[j]? = some p → xs[j]? = some p.1 ∧ ys[j]? = some p.2) (hn : vs.length ≤ sizeLine) (res : Value)
    (hz : IsZip s.heap z TI TO .none) (st : ZSt z TI TO i1 i2 l1 l2 S xs ys 0 s.heap) (c₀ : Nat) (hS : s.heap.get? S = some { cls := .type "list", data := .seq #[] c₀ })
    (hR : ∀ h' tk acc c as, (∀ b o, b ≠ S → b ≠ z → b ≠ TO → b ≠ i1 → b ≠ i2 → s.heap.get? b = some o → h'.get? b = some o) → h'.get? S = some { cls := .type "list", dict := none, data := .seq acc c, slots := #[] } → as.length = vs.length → ZG vs S h' as →
      acc.toList = as.map Value.ref → R (.ok (.ret res)) { s with heap := h', toks := tk }) :
    wpAny (model prog w) A.in1 (Builtin.List.listExtendWith (.ref S) (.ref z) res)
      (fun fin s' => match fin with | .done f => R (.ok f) s' | .again c' => c'.quiet = true ∧ codeAny (model prog w) A c' R s') (fun e s' => R (.error e) s') s := by
  have hT : s.TypeIs (.ref z) "zip" := ⟨_, hz, rfl⟩
  unfold Builtin.List.listExtendWith
  refine wpAny_bind (wpAny_typeOf (T := "zip") hT ?_)
  have h1 : Builtin.List.listSameRef (.ref S) (.ref z) = false := by simp [Builtin.List.listSameRef, Nat.ne_of_gt O.z]
  have h2 : (Value.type "zip" == Value.type "list") = false := by decide
  have h3 : (Value.type "zip" == Value.type "tuple") = false := by decide
  simp only [h1, h2, h3, Bool.or_false, Bool.false_eq_true, if_false]
  refine wpAny_bind (wpAny_pyIter_zip hz ?_)
  refine wpAny_bind (wpAny_holding ?_)
  unfold Builtin.List.listLengthHint
  refine wpAny_bind (wpAny_specialOf hT nolen_zip ?_)
  show wpAny _ A.in1 (specialOf (Value.ref z) (Str.ofString "__length_hint__") >>= _) _ _ _
  refine wpAny_bind (wpAny_specialOf hT nohint_zip ?_)
  refine wpAny_pure ?_
  show wpAny _ A.in1 (rule "list.extend.makes-room" >>= fun _ => Builtin.List.listTouch (.ref S) >>= fun _ =>
    again (.builtin "list.extend.loop" ⟨[.ref S, .ref z, res], []⟩)) _ _ _
  refine wpAny_bind (wpAny_rule ?_)
  refine wpAny_bind ?_
  show wpAny _ A.in1 (updateSeq S (·.push .none) >>= fun _ => updateSeq S (·.pop)) _ _ _
  refine wpAny_bind (wpAny_updateSeq hS rfl ?_)
  have hS₂ := Heap.get?_update_self (Obj.mapSeq (·.push Value.none)) hS rfl
  refine wpAny_updateSeq (hz := by seq_fits) hS₂ rfl ?_
  have hS₃ := Heap.get?_update_self (Obj.mapSeq (·.pop)) hS₂ rfl
  have oth : ∀ b o, b ≠ S → s.heap.get? b = some o → ((s.heap.update S (Obj.mapSeq (·.push Value.none))).update S (Obj.mapSeq (·.pop))).get? b = some o :=
    fun b o hb e => (Heap.get?_update_other _ _ (Ne.symm hb)).trans ((Heap.get?_update_other _ _ (Ne.symm hb)).trans e)
  exact wpAny_pure ⟨plainId_quiet PySem.F.plain_extend_loop _, z_loop (s := s) (h₁ := s.heap) hh D O sx hv hn res hR vs.length 0 _ s.toks _ #[] [] (Nat.sub_zero _) (Nat.zero_le _) (st.frame O oth) (fun b o hb _ _ _ _ e => oth b o hb e) hS₃ rfl rfl ⟨List.Pairwise.nil, (fun _ ha => nomatch ha), (fun j a hj => by simp at hj)⟩⟩
theorem z_init {R : Result → Shared → Prop} {vs : List (Value × Value)} (hh : A.handled = none) (D : ZipApart z TI TO i1 i2 l1 l2) (O : ZOff z TI TO i1 i2 l1 l2 S) (sx : xs.size = vs.length) (hv : ∀ (j : Nat) (p : Value × Value), vs[j]? = some p → xs[j]? = some p.1 ∧ ys[j]? = some p.2) (hn : vs.length ≤ sizeLine)
    (hz : IsZip s.heap z TI TO .none) (st : ZSt z TI TO i1 i2 l1 l2 S xs ys 0 s.heap) (hS : s.heap.get? S = some { cls := .type "list", data := .seq #[] })
    (hR : ∀ h' tk acc c as, (∀ b o, b ≠ S → b ≠ z → b ≠ TO → b ≠ i1 → b ≠ i2 → s.heap.get? b = some o → h'.get? b = some o) → h'.get? S = some { cls := .type "list", dict := none, data := .seq acc c, slots := #[] } → as.length = vs.length → ZG vs S h' as →
      acc.toList = as.map Value.ref → R (.ok (.ret .none)) { s with heap := h', toks := tk }) :
    wpAny (model prog w) A.in1 (Builtin.«list.__init__» ⟨[.ref S, .ref z], []⟩)
      (fun fin s' => match fin with | .done f => R (.ok f) s' | .again c' => c'.quiet = true ∧ codeAny (model prog w) A c' R s') (fun e s' => R (.error e) s') s := by
  show wpAny _ _ (do let old ← Builtin.List.listItems (.ref S); Builtin.List.listUpdate (.ref S) (fun _ => #[]); letGo old.toList.reverse; Builtin.List.listExtendWith (.ref S) (.ref z) .none) _ _ s
  refine wpAny_bind ?_
  unfold Builtin.List.listItems
  refine wpAny_bind (wpAny_seqItems hS rfl (wpAny_pure ?_))
  show wpAny _ _ (updateSeq S (fun _ => #[]) >>= fun _ => letGo (#[] : Array Value).toList.reverse >>= fun _ => Builtin.List.listExtendWith (.ref S) (.ref z) .none) _ _ s
  refine wpAny_bind (wpAny_updateSeq hS rfl ?_)
  have hS₂ := Heap.get?_update_self (Obj.mapSeq (fun _ => (#[] : Array Value))) hS rfl
  have oth : ∀ b o, b ≠ S → s.heap.get? b = some o → (s.heap.update S (Obj.mapSeq (fun _ => (#[] : Array Value)))).get? b = some o :=
    fun b o hb e => (Heap.get?_update_other _ _ (Ne.symm hb)).trans e
  refine wpAny_bind (wpAny_letGo ?_)
  refine z_extend (A := A) hh D O sx hv hn .none (oth _ _ (Nat.ne_of_lt O.z) hz) (st.frame O oth) _ hS₂ (fun h' tk acc c as hk hS' hl hG hacc => ?_)
  exact hR h' tk acc c as (fun b o hb h2 h3 h4 h5 e => hk b o hb h2 h3 h4 h5 (oth b o hb e)) hS' hl hG hacc
end
theorem z_call {prog : Program} {w : World} {A : Around} {E : Value → Shared → Prop} {s : Shared} {z TI TO i1 i2 l1 l2 : Addr} {xs ys : Array Value} {Q : Value → Shared → Prop} {vs : List (Value × Value)} (hh : A.handled = none) (D : ZipApart z TI TO i1 i2 l1 l2) (O : ZOff z TI TO i1 i2 l1 l2 s.heap.objs.size) (sx : xs.size = vs.length) (hv : ∀ (j : Nat) (p : Value × Value), vs[j]? = some p → xs[j]? = some p.1 ∧ ys[j]? = some p.2) (hn : vs.length ≤ sizeLine)
    (hz : IsZip s.heap z TI TO .none) (st : ZSt z TI TO i1 i2 l1 l2 s.heap.objs.size xs ys 0 s.heap)
    (hQ : ∀ h' tk acc c as, (∀ b o, b ≠ z → b ≠ TO → b ≠ i1 → b ≠ i2 → s.heap.get? b = some o → h'.get? b = some o) → h'.get? s.heap.objs.size = some { cls := .type "list", dict := none, data := .seq acc c, slots := #[] } → as.length = vs.length → ZG vs s.heap.objs.size h' as →
      acc.toList = as.map Value.ref → Q (.ref s.heap.objs.size) { s with heap := h', toks := tk }) :
    wpAny (model prog w) A (call (.type "list") [.ref z]) Q E s := by
  refine callType_codes (Q₁ := fun obj s₁ => obj = .ref s.heap.objs.size ∧ s₁ = { s with heap := s.heap.push { cls := .type "list", data := .seq #[] } }) PySem.F.called_list (PySem.F.typeCall_list_1 _) PySem.F.entry_list_init
    (code_list_new _ ⟨rfl, rfl⟩) fun obj s₁ h₁ => ?_
  obtain ⟨rfl, rfl⟩ := h₁
  have hS : (s.heap.push { cls := .type "list", data := .seq #[] }).get? s.heap.objs.size = some { cls := .type "list", data := .seq #[] } := Heap.get?_push_size _ rfl
  refine ⟨⟨_, hS, rfl⟩, PySem.F.args_list_init_2 _ _, z_init (A := A.in1) hh D O sx hv hn (Heap.get?_push_of_some _ hz) (st.frame O fun b o _ e => Heap.get?_push_of_some _ e) hS (fun h' tk acc c as hk hS' hl hG hacc => ?_)⟩
  exact ⟨rfl, hQ h' tk acc c as (fun b o h2 h3 h4 h5 e => hk b o (Nat.ne_of_lt (Heap.lt_size e)) h2 h3 h4 h5 (Heap.get?_push_of_some _ e)) hS' hl hG hacc⟩
/-- the tuples tracked at their addresses -/
def putT2 : Hp → List Addr → List (V × V) → Hp
  | H, a :: as, p :: kvs => putT2 (upd H a (.tup [p.1, p.2])) as kvs
  | H, _, _ => H
theorem putT2_off {b : Addr} : ∀ (as : List Addr) (kvs : List (V × V)) (H : Hp), b ∉ as → putT2 H as kvs b = H b
  | [], _, _, _ => rfl
  | _ :: _, [], _, _ => rfl
  | a :: as, p :: kvs, H, h => by
    show putT2 (upd H a (.tup [p.1, p.2])) as kvs b = H b
    rw [putT2_off as kvs _ (fun z => h (List.mem_cons_of_mem _ z)), upd_ne (fun z => h (by rw [z]; exact List.mem_cons_self))]
theorem putT2_at : ∀ (as : List Addr) (kvs : List (V × V)) (H : Hp), as.length = kvs.length → as.Nodup → Paired (fun (t : Addr) (p : V × V) => putT2 H as kvs t = some (.tup [p.1, p.2])) as kvs
  | [], [], _, _, _ => .nil
  | [], _ :: _, _, h, _ => by cases h
  | _ :: _, [], _, h, _ => by cases h
  | a :: as, p :: kvs, H, h, hn => by
    have hn' := List.nodup_cons.mp hn
    have ih := putT2_at as kvs (upd H a (.tup [p.1, p.2])) (Nat.succ.inj h) hn'.2
    refine .cons ?_ ih
    show putT2 (upd H a (.tup [p.1, p.2])) as kvs a = some (.tup [p.1, p.2])
    rw [putT2_off as kvs _ hn'.1, upd_same]
theorem zoff5 {a b n : Nat} (la : a < n) (lb : b < n) : ZOff (n + 4) (n + 2) (n + 3) n (n + 1) a b (n + 5) := by
  constructor <;> first | exact Nat.lt_add_right _ la | exact Nat.lt_add_right _ lb | (show (_ : Nat) < _; omega)
theorem zne5 {b n : Nat} (h : b < n) : b ≠ n + 4 ∧ b ≠ n + 3 ∧ b ≠ n ∧ b ≠ n + 1 := by omega
section
variable {X : Cx}
theorem zip_laid {pins : List (Addr × Obj)} {σ : L2.St} {H : Hp} {s : Shared} {h' : Heap} {tk : Nat} {S : Addr} {kvs : List (V × V)} {vs : List (Value × Value)} {acc : Array Value} {c : Nat} {as : List Addr} (I : Inv X pins σ H s) (hS0 : s.heap.objs.size ≤ S) (hz : kvs.length ≤ sizeLine) (kv : Paired (fun (p : V × V) (u : Value × Value) => RelV p.1 u.1 ∧ RelV p.2 u.2) kvs vs)
    (hk : ∀ b o, s.heap.get? b = some o → h'.get? b = some o) (hS : h'.get? S = some { cls := .type "list", dict := none, data := .seq acc c, slots := #[] }) (hl : as.length = vs.length) (hG : ZG vs S h' as) (hacc : acc.toList = as.map Value.ref) :
    ∃ H' : Hp, (∀ b o, H b = some o → H' b = some o) ∧ H S = none ∧ (∀ t ∈ as, H t = none) ∧ S ∉ as ∧ H' S = some (.lst (as.map V.ref)) ∧ Paired (fun (t : Addr) (q : V × V) => H' t = some (.tup [q.1, q.2])) as kvs ∧ Inv X pins σ H' { s with heap := h', toks := tk } := by
  have lk : kvs.length = vs.length := Paired.length kv
  have hSn : S ∉ as := fun z => Nat.lt_irrefl _ (hG.above _ z)
  have nd : as.Nodup := List.Pairwise.imp (fun {a b} (h : a < b) => Nat.ne_of_lt h) hG.rise
  have new : ∀ t ∈ as, H t = none := fun t ht => I.hok.fresh (Nat.le_of_lt (Nat.lt_of_le_of_lt hS0 (hG.above t ht)))
  have newS : H S = none := I.hok.fresh hS0
  have atP := putT2_at as kvs (upd H S (.lst (as.map V.ref))) (by omega) nd
  have off : ∀ b, b ∉ as → b ≠ S → putT2 (upd H S (.lst (as.map V.ref))) as kvs b = H b := fun b h1 h2 => by rw [putT2_off as kvs _ h1, upd_ne h2]
  have low : ∀ b o, s.heap.get? b = some o → b ∉ as ∧ b ≠ S := fun b o e => ⟨fun z => absurd (Heap.lt_size e) (Nat.not_lt.mpr (Nat.le_of_lt (Nat.lt_of_le_of_lt hS0 (hG.above b z)))), Nat.ne_of_lt (Nat.lt_of_lt_of_le (Heap.lt_size e) hS0)⟩
  have kp : ∀ b u, H b = some u → (putT2 (upd H S (.lst (as.map V.ref))) as kvs) b = some u := fun b u e => by
    rw [off b (fun z => by rw [new b z] at e; cases e) (fun z => by rw [z, newS] at e; cases e)]
    exact e
  have eS : putT2 (upd H S (.lst (as.map V.ref))) as kvs S = some (.lst (as.map V.ref)) := by rw [putT2_off as kvs _ hSn, upd_same]
  refine ⟨putT2 (upd H S (.lst (as.map V.ref))) as kvs, kp, newS, new, hSn, eS, atP, ?_⟩
  refine I.call' (ch := []) rfl ⟨fun b o q _ _ _ => hk b o q, fun b o q _ _ _ => ⟨o.slots, hk b o q⟩, fun b o q n _ => ?_, fun b o q _ => ⟨o, hk b o q⟩, fun b xs q => kp b _ q, fun b o u q => kp b _ q, fun b ps q => ⟨#[], by rw [kp b _ q]; simp⟩⟩ (fun b u q => ?_) I.bare fun b z => by simp at z
  · obtain ⟨z1, z2⟩ := low b o q
    rw [off b z1 z2]
    exact n
  · by_cases hb : b ∈ as
    · obtain ⟨j, pk, e1, e2, e3⟩ := LiI.paired_ix atP hb
      rw [e3] at q
      cases q
      obtain ⟨x, y, f1, f3⟩ := hG.pairs j b e1
      obtain ⟨qv, g1, g2, g3⟩ := LiI.paired_get kv e2
      rw [f1] at g1
      cases g1
      exact ⟨by show 2 ≤ sizeLine; decide, [x, y], .cons g2 (.cons g3 .nil), ⟨_, f3, rfl, _, rfl⟩⟩
    · by_cases hb2 : b = S
      · rw [hb2] at q ⊢
        rw [eS] at q
        cases q
        refine ⟨by rw [List.length_map]; omega, acc.toList, c, by rw [hacc]; exact LiI.vals_refs as, ?_⟩
        rw [Array.toArray_toList]
        exact hS
      · rw [off b hb hb2] at q
        exact (I.hok b u q).stay (fun d v _ y => hk d v y) (fun d y => kp d _ y) fun d xs y => kp d _ y
theorem paired_zip : ∀ {xs ys : List V} {us ws : List Value}, Vals xs us → Vals ys ws → Paired (fun (p : V × V) (u : Value × Value) => RelV p.1 u.1 ∧ RelV p.2 u.2) (xs.zip ys) (us.zip ws)
  | [], _, _, _, .nil, _ => .nil
  | _ :: _, [], _, _, .cons _ _, .nil => .nil
  | _ :: _, _ :: _, _, _, .cons a r, .cons b q => .cons ⟨a, b⟩ (paired_zip r q)
def rZipL (K : PySem.W.Frag) : List V → Hp → VK → Prop := fun vs H Q => ∃ (a b : Addr) (xs ys : List V), vs = [.ref a, .ref b] ∧ SqL K H a xs ∧ SqL K H b ys ∧ xs.length = ys.length ∧
  ∀ (H' : Hp) (p : Addr) (ts : List Addr), Same H H' → H p = none → (∀ t ∈ ts, H t = none) → p ∉ ts → H' p = some (.lst (ts.map V.ref)) → Paired (fun (t : Addr) (q : V × V) => H' t = some (.tup [q.1, q.2])) ts (xs.zip ys) → Q (.ref p) H'
def tZipL (K : PySem.W.Frag) (ta : TA) : TE := fun σ H Q => ta σ H fun vs H1 => rZipL K vs H1 Q
theorem pe_listZip {e e2 : Expr} {ta : TA} {p p2 pos pos2 : Pos} (hc : X.calm = true) (hg : Gl X "list") (hm : X.mg "list" = none) (hg2 : Gl X "zip") (hm2 : X.mg "zip" = none) (ha : PA X [e, e2] ta)
    (na : starEach [.Call (.Name "zip" p2) [e, e2] [] pos2] X.env = (false, eval (.Call (.Name "zip" p2) [e, e2] [] pos2) X.env) :: starEach [] X.env := by rfl)
    (hs : starEach [e, e2] X.env = (false, eval e X.env) :: starEach [e2] X.env := by rfl) (hpl : (backTo pos2 (starEach [e2] X.env)).any (·.1) = false := by rfl) :
    PE X (.Call (.Name "list" p) [.Call (.Name "zip" p2) [e, e2] [] pos2] [] pos) (tZipL X.K ta) := by
  refine ⟨fun pins s σ H Q I h => ?_⟩
  refine Call_ (ld_blt I hg hm boot_list (PyProof.Rows.callWith_type1 (args_cons ?_ na) na))
  refine Call_ (ld_blt I hg2 hm2 PyProof.Rows.boot_zip (PyProof.Rows.callWith_type1 (thn (ha.run pos2 pins s σ H _ I h) fun us s1 ⟨vs, H1, I1, r1, q1⟩ => ?_) hs hpl))
  obtain ⟨a, b, xs, ys, ex, hqx, hqy, len, q⟩ := q1
  subst ex
  cases r1 with
  | cons r rr =>
    cases rr with
    | cons r' rr =>
      cases rr
      cases r
      cases r'
      obtain ⟨its, rv, p1, z1⟩ := I1.list hqx
      obtain ⟨its2, rv2, p2, z2⟩ := I1.list hqy
      have la : a < s1.heap.objs.size := p1.lt
      have lb : b < s1.heap.objs.size := p2.lt
      have e1 := rv.length
      have e2 := rv2.length
      refine call_zip_2 p1.isList p2.isList fun h' hz hTI hTO h1 h2 hsz hk => args_nil ?_
      have lz : (its.zip its2).length = its.length := by rw [List.length_zip]; omega
      have sz5 : s1.heap.objs.size + 5 = h'.objs.size := hsz.symm
      refine z_call (s := { s1 with heap := h' }) (vs := its.zip its2) (xs := its.toArray) (ys := its2.toArray) (I1.ok.hd hc) (PySem.W.ktu_apart s1.heap.objs.size a b la lb) ?_ ?_ ?_ ?_ hz ⟨hTI, h1, h2, p1.isList.at fun o e => hk _ _ e, p2.isList.at fun o e => hk _ _ e, .inl ⟨hz, _, _, hTO⟩⟩ ?_
      · show ZOff _ _ _ _ _ _ _ h'.objs.size
        rw [hsz]
        exact zoff5 la lb
      · rw [lz]
        simp
      · intro j pr hj
        rw [List.getElem?_zip_eq_some] at hj
        exact ⟨by simpa using hj.1, by simpa using hj.2⟩
      · rw [lz]
        rw [List.size_toArray] at *
        omega
      · intro h2' tk acc c as hk2 hS hl hG hacc
        have hk3 : ∀ b o, s1.heap.get? b = some o → h2'.get? b = some o := fun b o e => by
          have lt := Heap.lt_size e
          obtain ⟨f1, f2, f3, f4⟩ := zne5 lt
          exact hk2 b o f1 f2 f3 f4 (hk b o e)
        obtain ⟨H', k1, k2, k3, k4, k5, k6, J⟩ := zip_laid (tk := tk) (kvs := xs.zip ys) I1 (show s1.heap.objs.size ≤ h'.objs.size by rw [hsz]; exact Nat.le_add_right _ _) (by rw [List.length_zip]; omega) (paired_zip rv rv2) hk3 hS hl hG hacc
        exact ⟨.ref _, H', J, rfl, q H' _ as k1 k2 k3 k4 k5 k6⟩
end
end Cb
set_option Elab.async false
set_option linter.all false
set_option maxRecDepth 100000
set_option maxHeartbeats 4000000
namespace Cb
open PySem PySem.Spec PyProof.Rows L2
def rLenQ (K : PySem.W.Frag) : List V → Hp → VK → Prop := fun xs H Q => ∃ p ys, xs = [.ref p] ∧ (SqL K H p ys ∨ SqT K H p ys) ∧ Q (.int ((ys.length : Nat) : Int)) H
theorem call_lenQ {X : Cx} : CallR X (.builtin "len") (rLenQ X.K) := call_len_seq
def rInt1 : List V → Hp → VK → Prop := fun xs H Q => (∃ i, xs = [.int i] ∧ Q (.int i) H) ∨ ∃ k, xs = [.bl k] ∧ Q (.int (if k then 1 else 0)) H
theorem call_intQ {X : Cx} : CallR X (.type "int") rInt1 := call_int1
abbrev s_l_shuffle : Stmt := topS 29
abbrev NSh : List Str := ["_law_generator_here", "_law_most", "_law_left", "_law_found", "_law_turn", "_law_way", "_law_others", "_law_one", "_law_at"]
theorem sc_l_shuffle : FnScope NSh ["_law_generator_here", "_law_most"] (defScope s_l_shuffle) := ⟨rfl, rfl, rfl, by decide +kernel, rfl, by decide +kernel, by decide +kernel⟩
structure TShu (K : PySem.W.Frag) (mg : Str → Option Value) : Prop where
  tg : TGen K mg
  d_l_shuffle : Has K mg "_law_shuffle" s_l_shuffle ["_law_generator_here", "_law_most"]
  b_list : mg "list" = none
  b_zip : mg "zip" = none
def LowM (m : Int) (q : Pr) : Prop := (0 ≤ q.1 ∧ q.1 < m) ∧ 0 ≤ q.2 ∧ q.2 < m
theorem zip_fst : ∀ {xs ys : List Int}, xs.length = ys.length → (xs.zip ys).map (·.1) = xs
  | [], _, _ => by simp
  | _ :: _, [], h => by simp at h
  | x :: xs, y :: ys, h => by
    show x :: (xs.zip ys).map (·.1) = _
    rw [zip_fst (by simpa using h)]
theorem dts_pairs {H : Hp} : ∀ {ts : List Addr} {xs ys : List Int}, Paired (fun (t : Addr) (q : V × V) => H t = some (.tup [q.1, q.2])) ts ((xs.map V.int).zip (ys.map V.int)) → DTs H (ts.map V.ref) ((xs.zip ys).map pairD)
  | _, [], _, h => by
    cases h
    exact .nil
  | _, _ :: _, [], h => by
    cases h
    exact .nil
  | _, x :: xs, y :: ys, h => by
    cases h with
    | cons a r => exact .cons (.tup a (.cons (.int _) (.cons (.int _) .nil))) (dts_pairs (xs := xs) (ys := ys) r)
theorem paired_hid {S : List Addr} {H : Hp} : ∀ {ts : List Addr} {qs : List (V × V)}, (∀ t ∈ ts, t ∉ S) → Paired (fun (t : Addr) (q : V × V) => H t = some (.tup [q.1, q.2])) ts qs → Paired (fun (t : Addr) (q : V × V) => hid S H t = some (.tup [q.1, q.2])) ts qs
  | _, _, _, .nil => .nil
  | _, _, h, .cons a r => .cons (hid_at (h _ (List.mem_cons_self ..)) a) (paired_hid (fun t ht => h t (List.mem_cons_of_mem _ ht)) r)
theorem rg_ints (m : Nat) : rgV 0 (m : Int) = ((List.range m).map fun i => ((i : Nat) : Int)).map V.int := by
  unfold rgV
  rw [List.map_map, show ((m : Int) - 0).toNat = m by omega]
  refine List.map_congr_left fun i _ => ?_
  show V.int (0 + (i : Int)) = V.int (i : Int)
  rw [Int.zero_add]
section
variable {P : Program} {w : World} {K : PySem.W.Frag} {mg : Str → Option Value} {base : Heap}
def sp_l_shuffle : Sp := fun vs H Q _ => ∃ (g : Addr) (s t0 : Int) (n m : Nat), vs = [.ref g, .int (m : Nat)] ∧ Gn g s t0 n H ∧ 0 ≤ t0 ∧ t0 + (n + 200 : Nat) < 2 ^ 62 ∧ 1 ≤ m ∧ m ≤ 10 ∧
  ∀ (p : Addr) (ps : List Pr) (H' : Hp), p ≠ g → DT (hid [g] H') (.ref p) (.list (ps.map pairD)) → (∀ q ∈ ps, LowM m q) → (ps.map (·.1)).Nodup → ps.length ≤ m → Gn g s t0 (n + 200) H' → Keep [g] H H' → Q (.ref p) H'
theorem c_l_shuffle (T : TShu K mg) : Says P w K mg base 3 "_law_shuffle" ["_law_generator_here", "_law_most"] sp_l_shuffle := by
  refine says T.d_l_shuffle sc_l_shuffle (fun vs H Q E h => ?_) (fun f cdv A outer st H vs Q E hr h => ?_)
  · obtain ⟨_, _, _, _, _, rfl, _⟩ := h; rfl
  refine ⟨_, (pss_cons (ps_asg (pe_tup (pa_cons (pe_listRg rfl (by rfl) T.b_list (prg_1 (by rfl) T.tg.b_range (pv 1))) (pa_cons (pe_lst pa_nil) pa_nil))) (pg_tup rfl (pgs_cons (pg_name (i := 2) sc_l_shuffle.nd rfl (.inl rfl)) (pgs_cons (pg_name (i := 3) sc_l_shuffle.nd rfl (.inr rfl)) pgs_nil))))
    (pss_cons (ps_for PassesOwn.never rfl (pi_range1 (by rfl) T.tg.b_range (pa_cons (pe_s (c_l_random T.tg) hr (pa_cons (pv 0) (pa_cons (pe_op op_add (pv 1) pe_int) pa_nil))) pa_nil)) (pg_name (i := 4) sc_l_shuffle.nd rfl (.inl rfl))
        (pss_one (ps_expr (pe_bm PySem.F.plainAttrs_list PySem.F.slot_list_append PySem.F.type_list_append mt_append (pv 3) (pa_cons (pe_bm PySem.F.plainAttrs_list PySem.F.slot_list_pop PySem.F.type_list_pop mt_popAt (pv 2) (pa_cons (pe_s (c_l_random T.tg) hr (pa_cons (pv 0) (pa_cons (pe_callB call_len_seq (by rfl) T.tg.b_len (by decide +kernel) (pa_cons (pv 2) pa_nil)) pa_nil))) pa_nil)) pa_nil)))))
    (pss_cons (ps_set (i := 5) sc_l_shuffle.nd rfl (.inr rfl) (pe_s (c_l_random T.tg) hr (pa_cons (pv 0) (pa_cons pe_int pa_nil))))
    (pss_cons (ps_if (pt_cmpR op_eq (pv 5) pe_int (nomark _))
        (pss_one (ps_ret (pe_lc (own := [("_law_one", 7)]) (g := gName 7) (tt := tYes) rfl sc_l_shuffle.nd (pi_list (pv 3)) (blkOk_by (N := NSh) (sc := defScope s_l_shuffle) (own := [("_law_one", 7)]) (by decide +kernel)) (fun _ _ _ _ _ => pg_name (i := 7) sc_l_shuffle.nd rfl (Or.inl rfl)) (fun _ _ _ _ _ => pts_nil) (fun _ _ _ _ _ => (pe_tup (pa_cons (pv 7) (pa_cons (pe_s (c_l_random T.tg) hr (pa_cons (pv 0) (pa_cons (pv 1) pa_nil))) pa_nil)))))))
        pss_nil)
    (pss_cons (ps_setLc (i := 6) (own := [("_law_at", 8)]) (g := gName 8) (tt := tYes) rfl sc_l_shuffle.nd rfl rfl (sw_true rfl rfl rfl (by decide +kernel)) (pi_range1 (by rfl) T.tg.b_range (pa_cons (pe_callB call_len_seq (by rfl) T.tg.b_len (by decide +kernel) (pa_cons (pv 3) pa_nil)) pa_nil)) (blkOk_by (N := NSh) (sc := defScope s_l_shuffle) (own := [("_law_at", 8)]) (by decide +kernel)) (fun _ _ _ _ _ => pg_name (i := 8) sc_l_shuffle.nd rfl (Or.inl rfl)) (fun _ _ _ _ _ => pts_nil) (fun _ _ _ _ _ => (pe_ix (r := rIxL K) ix_list (pv 3) (pe_op op_mod (pe_callTy (T := "int") (r := rInt1) call_intQ (by rfl) T.tg.b_int (by decide +kernel) (pa_cons (pe_op op_add (pe_op op_add (pv 8) pe_int) (pe_s (c_l_random T.tg) hr (pa_cons (pv 0) (pa_cons (pe_op op_add pe_int (pv 5)) pa_nil)))) pa_nil)) (pe_callB (id := "len") (r := rLenQ K) call_lenQ (by rfl) T.tg.b_len (by decide +kernel) (pa_cons (pv 3) pa_nil))) (fun _ _ => rfl))))
    (pss_one (ps_ret (pe_listZip rfl (by rfl) T.b_list (by rfl) T.b_zip (pa_cons (pv 3) (pa_cons (pv 6) pa_nil)))))))))), ?_⟩
  obtain ⟨g, s0, t0, n, m, rfl, G, h0, h1, m1, m10, q⟩ := h
  refine ⟨_, rfl, (m : Int), rfl, ⟨by omega, by omega, by omega, by omega, by omega⟩, fun L nL => ⟨Nat.zero_le _, fun D nD => ⟨(show 2 ≤ sizeLine by decide), fun t nt => ⟨t, _, rfl, SqT.of upd_same, rfl, _, _, rfl, _, _, rfl, rfl, ?_⟩⟩⟩⟩
  have nLg : L ≠ g := G.some nL
  have nDg : D ≠ g := (G.new nL).some nD
  have nLD : L ≠ D := ne_of_none upd_same nD
  have sA := same_new (o := .lst (rgV 0 (m : Int))) nL
  have nD' : H D = none := sA.free nD
  have sB := same_new (o := .lst []) nD
  have sC := same_new (o := .tup [.ref L, .ref D]) nt
  have s0' := (sA.trans sB).trans sC
  have hL0 := sC _ _ (sB _ _ (show (upd H L (.lst (rgV 0 (m : Int)))) L = _ from upd_same))
  have hD0 := sC _ _ (show (upd (upd H L (.lst (rgV 0 (m : Int)))) D (.lst [])) D = _ from upd_same)
  have G1 := G.same s0'
  generalize upd (upd (upd H L (.lst (rgV 0 (m : Int)))) D (.lst [])) t (.tup [.ref L, .ref D]) = H1 at s0' hL0 hD0 G1 ⊢
  rw [rg_ints] at hL0
  clear sA sB sC nt nD
  refine ⟨_, rfl, _, rfl, _, _, rfl, rfl, draw G1 h0 (by omega) (by omega) (Nat.lt_of_lt_of_le (show (((m : Nat) : Int) + 1).natAbs < 2 ^ 11 by omega) (Nat.pow_le_pow_right (by decide) (by decide))) fun r H2 r0 r1 G2 k2 => ?_⟩
  have K2 : Keep [g] H H2 := (same_keep s0').trans k2
  have rng0 : ∀ x ∈ (List.range m).map (fun i => ((i : Nat) : Int)), 0 ≤ x ∧ x < m := fun x hx => by
    obtain ⟨i, hi, rfl⟩ := List.mem_map.mp hx
    have := List.mem_range.mp hi
    omega
  have nd0 : ((List.range m).map fun i => ((i : Nat) : Int)).Nodup := List.Pairwise.map _ (fun a b (h : a ≠ b) e => h (by omega)) List.nodup_range
  refine ⟨r, rfl, by omega, by omega, for_range (n := r.toNat) (fun i σ H' => (∃ x4 : Option V, σ = [some (.ref g), some (.int (m : Nat)), some (.ref L), some (.ref D), x4, none, none, none, none]) ∧ Keep [g] H H' ∧ Gn g s0 t0 (n + 8 + 8 * i) H' ∧ ∃ (ns fs : List Int), H' L = some (.lst (ns.map V.int)) ∧ ns.length + i = m ∧ ns.Nodup ∧ (∀ x ∈ ns, 0 ≤ x ∧ x < m) ∧
      H' D = some (.lst (fs.map V.int)) ∧ fs.length = i ∧ (∀ x ∈ fs, 0 ≤ x ∧ x < m) ∧ fs.Nodup ∧ ∀ x ∈ fs, x ∉ ns)
    ⟨⟨_, rfl⟩, K2, G2, _, [], k2 _ _ (nin1 nLg) hL0, by simp, nd0, rng0, k2 _ _ (nin1 nDg) hD0, rfl, fun q hq => (by cases hq), List.nodup_nil, fun q hq => (by cases hq)⟩ ?_ ?_⟩
  · rintro i σ H3 hi ⟨⟨x4, rfl⟩, k3, G3, ns, fs, hL, ln, nd, inn, hD, lf, low, ndf, out⟩
    refine ⟨_, rfl, .inl ⟨rfl, _, SqL.of hD⟩, _, rfl, .inl ⟨rfl, _, SqL.of hL⟩, _, rfl, _, rfl, L, _, rfl, .inl (SqL.of hL), ?_⟩
    have el : (((ns.map V.int).length : Nat) : Int) = (ns.length : Int) := by rw [List.length_map]
    refine draw G3 h0 (by omega) (by omega) (Nat.lt_of_lt_of_le (show ((((ns.map V.int).length : Nat) : Int)).natAbs < 2 ^ 11 by omega) (Nat.pow_le_pow_right (by decide) (by decide))) fun at_ H4 at0 at1 G4 k4 => ?_
    obtain ⟨k, rfl⟩ : ∃ k : Nat, at_ = (k : Int) := ⟨at_.toNat, (Int.toNat_of_nonneg at0).symm⟩
    have lk : k < ns.length := by omega
    have hk : ns[k]? = some ns[k] := List.getElem?_eq_getElem lk
    have hkm : ns[k] ∈ ns := List.getElem_mem lk
    generalize ns[k] = y at hk hkm
    have hL4 := k4 _ _ (nin1 nLg) hL
    have sq : seqIndex? (k : Int) (ns.map V.int).length = some k := (ixN_seq (by
      unfold ixN
      rw [if_pos (Int.natCast_nonneg _), if_pos (by omega)]
      rfl)).1
    refine ⟨L, _, (k : Int), k, .int y, rfl, rfl, hL4, by omega, by omega, sq, by rw [List.getElem?_map, hk]; rfl, ?_⟩
    have G5 : Gn g s0 t0 (n + 8 + 8 * i + 8) (upd H4 L (.lst ((ns.map V.int).eraseIdx k))) := G4.off (Ne.symm nLg)
    have hD5 : (upd H4 L (.lst ((ns.map V.int).eraseIdx k))) D = some (.lst (fs.map V.int)) := (upd_ne (Ne.symm nLD)).trans (k4 _ _ (nin1 nDg) hD)
    refine ⟨D, _, _, rfl, rfl, hD5, small1000'' (by rw [List.length_map]; omega), ⟨_, rfl⟩, ?_, ?_, ns.eraseIdx k, fs ++ [y], ?_, ?_, ?_, ?_, ?_, ?_, ?_, ?_, ?_⟩
    · intro b o nb e
      rw [upd_ne (ne_of_none e nD'), upd_ne (ne_of_none e nL)]
      exact k4 _ _ nb (k3 _ _ nb e)
    · exact (G5.off (Ne.symm nDg)).mono (by omega)
    · rw [upd_ne nLD, upd_same, erase_map]
    · rw [List.length_eraseIdx, if_pos lk]
      omega
    · exact nd.sublist (List.eraseIdx_sublist ns k)
    · exact fun x hx => inn x (List.mem_of_mem_eraseIdx hx)
    · rw [upd_same, List.map_append]
      rfl
    · rw [List.length_append, lf]
      rfl
    · intro x hx
      rcases List.mem_append.mp hx with hx | hx
      · exact low _ hx
      · rw [List.mem_singleton.mp hx]
        exact inn y hkm
    · rw [List.nodup_append]
      refine ⟨ndf, by simp, ?_⟩
      rintro a ha b hb rfl
      rw [List.mem_singleton.mp hb] at ha
      exact out y ha hkm
    · intro x hx hm
      rcases List.mem_append.mp hx with hx | hx
      · exact out x hx (List.mem_of_mem_eraseIdx hm)
      · rw [List.mem_singleton.mp hx] at hm
        exact erase_out nd hk hm
  · rintro σ H3 ⟨⟨x4, rfl⟩, k3, G3, ns, fs, hL, ln, nd, inn, hD, lf, low, ndf, out⟩
    have rm : r.toNat ≤ m := by omega
    clear hL ln nd inn out hL0 hD0
    refine ⟨_, rfl, draw G3 h0 (by omega) (by decide) (by decide) fun way H4 w0 w1 G4 k4 => ?_⟩
    have K4 := k3.trans k4
    have hD4 := k4 _ _ (nin1 nDg) hD
    refine ⟨_, rfl, rfl, _, rfl, ifEqI (fun _ => ?_) (fun _ => ?_)⟩
    · -- each with any
      refine ⟨_, rfl, D, rfl, ⟨_, SqL.of hD4⟩, fun R nR => ?_⟩
      have nRg : R ≠ g := G4.some nR
      have nRH : H R = none := by
        cases e : H R with
        | none => rfl
        | some o =>
          have := K4 R o (nin1 nRg) e
          rw [nR] at this
          cases this
      refine lc_it (walk_list (K := K) (a := D) (xs := fs.map V.int)) (fun j H' => Keep [g] H4 H' ∧ Gn g s0 t0 (n + 8 + 8 * r.toNat + 8 + 8 * j) H' ∧ ∃ (acc : List V) (os : List Int), os.length = j ∧ H' R = some (.lst acc) ∧ DTs (hid [g, R] H') acc (((fs.take j).zip os).map pairD) ∧ ∀ x ∈ os, 0 ≤ x ∧ x < m)
        ⟨same_keep (same_new nR), G4.new nR, [], [], rfl, upd_same, .nil, fun x hx => (by cases hx)⟩ (fun i H' _ z => SqL.of (z.1 _ _ (nin1 nDg) hD4)) ?_ ?_
      · rintro j x H5 H6 hj ⟨k5, G5, acc, os, lo, hR, da, oin⟩ ⟨rfl, hx⟩
        rw [List.length_map] at hj
        have hx2 : fs[j]? = some fs[j] := List.getElem?_eq_getElem hj
        rw [List.getElem?_map, hx2] at hx
        obtain rfl : V.int fs[j] = x := Option.some.inj hx
        generalize fs[j] = y at hx2
        refine ⟨rfl, ?_⟩
        refine ⟨_, rfl, _, rfl, _, rfl, draw G5 h0 (by omega) (by omega) (Nat.lt_of_lt_of_le (show (((m : Nat) : Int)).natAbs < 2 ^ 11 by omega) (Nat.pow_le_pow_right (by decide) (by decide))) fun z H7 z0 z1 G7 k7 => ?_⟩
        refine ⟨(show 2 ≤ sizeLine by decide), fun t nt => ?_⟩
        have ntg : t ≠ g := G7.some nt
        have hR7 := k7 _ _ (nin1 nRg) hR
        have ntR : t ≠ R := (ne_of_none hR7 nt).symm
        have lac := da.length
        rw [List.length_map, List.length_zip, List.length_take] at lac
        have e1 : (fs.take (j + 1)).zip (os ++ [z]) = (fs.take j).zip os ++ [(y, z)] := by
          rw [List.take_add_one, hx2]
          rw [List.zip_append (by rw [List.length_take]; omega)]
          rfl
        refine ⟨acc, same_new nt _ _ hR7, small1000'' (by omega), ?_, ((G7.new nt).off (Ne.symm nRg)).mono (by omega), acc ++ [.ref t], os ++ [z], by rw [List.length_append, lo]; rfl, upd_same, ?_, ?_⟩
        · intro b o nb e
          rw [upd_ne (ne_of_none e nR)]
          exact same_new nt _ _ (k7 _ _ nb (k5 _ _ nb e))
        · rw [e1, List.map_append]
          have kk : Keep [g, R] H6 (upd (upd H7 t (.tup [.int y, .int z])) R (.lst (acc ++ [.ref t]))) := by
            intro b o nb e
            have n1 : b ≠ g := fun e => nb (by simp [e])
            have n2 : b ≠ R := fun e => nb (by simp [e])
            rw [upd_ne n2]
            exact same_new nt _ _ (k7 _ _ (nin1 n1) e)
          exact DTs.snoc (da.same kk.hid _) (.tup (hid_at (by simp [ntg, ntR]) (by rw [upd_ne ntR]; exact upd_same)) (.cons (.int _) (.cons (.int _) .nil)))
        · intro x hx
          rcases List.mem_append.mp hx with hx | hx
          · exact oin x hx
          · rw [List.mem_singleton.mp hx]
            exact ⟨z0, z1⟩
      · rintro H5 ⟨k5, G5, acc, os, lo, hR, da, oin⟩
        rw [List.length_map] at lo G5 da
        rw [List.take_length] at da
        refine q R (fs.zip os) H5 nRg (.lst (hid_at (nin1 nRg) hR) (da.same (hid_mono (by simp)) _)) ?_ ?_ ?_ (G5.mono (by omega)) (K4.trans k5)
        · intro p hp
          have := List.of_mem_zip (a := p.1) (b := p.2) hp
          exact ⟨low _ this.1, oin _ this.2⟩
        · rw [zip_fst (by omega)]
          exact ndf
        · rw [List.length_zip]
          omega
    · -- each with one of them
      refine ⟨_, rfl, D, _, rfl, .inl (SqL.of hD4), (((fs.map V.int).length : Nat) : Int), rfl, by rw [List.length_map]; omega, by rw [List.length_map]; omega, fun R nR => ?_⟩
      have nRg : R ≠ g := G4.some nR
      have en : (((fs.map V.int).length : Nat) : Int).toNat = fs.length := by rw [List.length_map]; omega
      rw [en]
      refine lc_it (walk_range (lo := 0) (n := fs.length)) (fun j H' => Keep [g] H4 H' ∧ Gn g s0 t0 (n + 8 + 8 * r.toNat + 8 + 8 * j) H' ∧ ∃ (os : List Int), os.length = j ∧ H' R = some (.lst (os.map V.int)) ∧ ∀ x ∈ os, x ∈ fs)
        ⟨same_keep (same_new nR), G4.new nR, [], rfl, upd_same, fun x hx => (by cases hx)⟩ (fun i H' _ z => trivial) ?_ ?_
      · rintro j x H5 H6 hj ⟨k5, G5, os, lo, hR, oin⟩ ⟨rfl, rfl⟩
        refine ⟨rfl, ?_⟩
        refine ⟨_, rfl, _, rfl, _, _, rfl, rfl, _, rfl, _, rfl, _, _, rfl, rfl, ?_⟩
        refine draw G5 h0 (by omega) (by omega) (Nat.lt_of_lt_of_le (show (1 + way).natAbs < 2 ^ 11 by omega) (Nat.pow_le_pow_right (by decide) (by decide))) fun z H7 z0 z1 G7 k7 => ?_
        have hD7 := k7 _ _ (nin1 nDg) (k5 _ _ (nin1 nDg) hD4)
        have hR7 := k7 _ _ (nin1 nRg) hR
        have fl : (0 : Int) < (((fs.map V.int).length : Nat) : Int) := by rw [List.length_map]; omega
        obtain ⟨b0, b1⟩ := @mod_in (0 + (j : Int) + 1 + z) _ fl
        obtain ⟨k, ek⟩ : ∃ k : Nat, (0 + (j : Int) + 1 + z) % (((fs.map V.int).length : Nat) : Int) = (k : Int) := ⟨_, (Int.toNat_of_nonneg b0).symm⟩
        have lk : k < fs.length := by
          rw [ek, List.length_map] at b1
          omega
        have hk : (fs.map V.int)[k]? = some (V.int fs[k]) := by rw [List.getElem?_map, List.getElem?_eq_getElem lk]; rfl
        refine ⟨_, _, rfl, rfl, .inl ⟨_, rfl, _, rfl, D, _, rfl, .inl (SqL.of hD7), _, _, rfl, rfl, fl, D, _, _, V.int fs[k], rfl, rfl, SqL.of hD7, by rw [ek]; exact atI_nat hk, ?_⟩⟩
        refine ⟨_, hR7, small1000'' (by rw [List.length_map]; omega), ?_, ((G7.off (Ne.symm nRg)).mono (by omega)), os ++ [fs[k]], by rw [List.length_append, lo]; rfl, ?_, ?_⟩
        · intro b o nb e
          rw [upd_ne (ne_of_none e nR)]
          exact k7 _ _ nb (k5 _ _ nb e)
        · rw [upd_same, List.map_append]
          rfl
        · intro x hx
          rcases List.mem_append.mp hx with hx | hx
          · exact oin x hx
          · rw [List.mem_singleton.mp hx]
            exact List.getElem_mem lk
      · rintro H5 ⟨k5, G5, os, lo, hR, oin⟩
        refine ⟨_, rfl, _, rfl, D, R, _, _, rfl, SqL.of (k5 _ _ (nin1 nDg) hD4), SqL.of hR, by rw [List.length_map, List.length_map]; omega, fun H6 p ts s6 np nts pn hp pa => ?_⟩
        have npg : p ≠ g := G5.some np
        have ntg : ∀ t ∈ ts, t ∉ [g] := fun t ht => nin1 (G5.some (nts t ht))
        refine q p (fs.zip os) H6 npg (.lst (hid_at (nin1 npg) hp) (dts_pairs (paired_hid ntg pa))) ?_ ?_ ?_ ((G5.same s6).mono (by omega)) ((K4.trans k5).trans (same_keep s6))
        · intro p hp
          have := List.of_mem_zip (a := p.1) (b := p.2) hp
          exact ⟨low _ this.1, low _ (oin _ this.2)⟩
        · rw [zip_fst (by omega)]
          exact ndf
        · rw [List.length_zip]
          omega
end
end Cb
set_option Elab.async false
set_option linter.all false
set_option maxRecDepth 100000
set_option maxHeartbeats 4000000
namespace Cb
open PySem PySem.Spec PyProof.Rows L2
theorem unl_fun : (fun p : Pr => !decide (p.1 = p.2)) = unl := rfl
theorem pick_cons {s : Int} {lf r : List Pr} {p : Pr} (h : lf.filter (isFree lf) = p :: r) : lf.find? (isFree lf) = some p := by
  rw [← List.head?_filter, h]
  rfl
theorem pick_nil {lf : List Pr} (h : lf.filter (isFree lf) = []) : lf.find? (isFree lf) = none := by
  rw [← List.head?_filter, h]
  rfl
theorem next_eq {s : Int} {lf : List Pr} (ne : lf ≠ []) : ((lf.filter fun q => (lf.filter (isFree lf)).isEmpty || !decide (q.1 = (stepM s lf).1.1)).map fun q => (q.1, if q.2 = (stepM s lf).1.2 then (stepM s lf).1.1 else q.2)) = (stepM s lf).2 := by
  cases hf : lf.filter (isFree lf) with
  | cons p r =>
    have e := pick_cons (s := s) hf
    rw [step_some e]
    rfl
  | nil =>
    have e := pick_nil hf
    cases lf with
    | nil => exact absurd rfl ne
    | cons p l =>
      rw [step_none e]
      have : ((p :: l).filter fun q => ([] : List Pr).isEmpty || !decide (q.1 = s)) = p :: l := by
        rw [List.filter_eq_self]
        intro q _
        rfl
      show ((p :: l).filter fun q => ([] : List Pr).isEmpty || !decide (q.1 = s)).map _ = _
      rw [this]
      rfl
def WRu (a D : Addr) (s : Int) (l0 : List Pr) (H : Hp) (m : Nat) (σ : L2.St) (H' : Hp) : Prop := ∃ (x4 x5 x6 x7 : Option V) (L : Addr) (lf row : List Pr) (n : Nat), σ = [some (.ref a), some (.int s), some (.ref L), some (.ref D), x4, x5, x6, x7, none] ∧ m = left lf ∧ Lf s lf ∧ lf.length ≤ 40 ∧ left lf ≤ n + 1 ∧ row ++ (runM s n lf).1 = ruleM s l0 ∧ row.length + left lf ≤ 90 ∧
  DT (hid [D] H') (.ref L) (.list (lf.map pairD)) ∧ (∃ racc, H' D = some (.lst racc) ∧ DTs (hid [D] H') racc (row.map pairD)) ∧ Same H H'
abbrev s_l_rule : Stmt := topS 31
abbrev NRu : List Str := ["_law_shuffle_here", "_law_spare", "_law_left", "_law_found", "_law_read", "_law_free", "_law_one", "_law_other", "_law_pair"]
theorem sc_l_rule : FnScope NRu ["_law_shuffle_here", "_law_spare"] (defScope s_l_rule) := ⟨rfl, rfl, rfl, by decide +kernel, rfl, by decide +kernel, by decide +kernel⟩
structure TLru (K : PySem.W.Frag) (mg : Str → Option Value) : Prop where
  d_l_rule : Has K mg "_law_rule" s_l_rule ["_law_shuffle_here", "_law_spare"]
section
variable {P : Program} {w : World} {K : PySem.W.Frag} {mg : Str → Option Value} {base : Heap}
theorem c_l_rule (T : TLru K mg) : Says P w K mg base 1 "_law_rule" ["_law_shuffle_here", "_law_spare"] sp_moves_of := by
  refine says T.d_l_rule sc_l_rule (fun vs H Q E h => ?_) (fun f cdv A outer st H vs Q E hr h => ?_)
  · obtain ⟨_, _, _, rfl, _⟩ := h; rfl
  refine ⟨_, (pss_cons (ps_par (i := 2) (j := 3) rfl sc_l_rule.nd rfl rfl (by decide) rfl rfl (pa_cons (pe_lc (own := [("_law_pair", 8)]) (g := gName 8) rfl sc_l_rule.nd (pi_list (pv 0)) (blkOk_by (N := NRu) (sc := defScope s_l_rule) (own := [("_law_pair", 8)]) (by decide +kernel)) (fun _ _ _ _ _ => pg_name (i := 8) sc_l_rule.nd rfl (Or.inl rfl)) (fun _ _ _ _ _ => pts_one (pt_cmpR op_ne (pe_ix (r := rIxT K) ix_tup (pv 8) pe_int (fun _ _ => rfl)) (pe_ix (r := rIxT K) ix_tup (pv 8) pe_int (fun _ _ => rfl)) (nomark _))) (fun _ _ _ _ _ => (pv 8))) (pa_cons (pe_lst pa_nil) pa_nil)) rfl)
    (pss_cons (ps_while PassesOwn.never (pt_cmpR (op_neD hr.units) (pv 2) (pe_lst pa_nil) (nomark _))
        (pss_cons (ps_set (i := 4) sc_l_rule.nd rfl (.inr rfl) (pe_lc (own := [("_law_pair", 8)]) (g := gName 8) (tt := tYes) rfl sc_l_rule.nd (pi_list (pv 2)) (blkOk_by (N := NRu) (sc := defScope s_l_rule) (own := [("_law_pair", 8)]) (by decide +kernel)) (fun _ _ _ _ _ => pg_name (i := 8) sc_l_rule.nd rfl (Or.inl rfl)) (fun _ _ _ _ _ => pts_nil) (fun _ _ _ _ _ => (pe_ix (r := rIxT K) ix_tup (pv 8) pe_int (fun _ _ => rfl)))))
        (pss_cons (ps_set (i := 5) sc_l_rule.nd rfl (.inr rfl) (pe_lc (own := [("_law_pair", 8)]) (g := gName 8) rfl sc_l_rule.nd (pi_list (pv 2)) (blkOk_by (N := NRu) (sc := defScope s_l_rule) (own := [("_law_pair", 8)]) (by decide +kernel)) (fun _ _ _ _ _ => pg_name (i := 8) sc_l_rule.nd rfl (Or.inl rfl)) (fun _ _ _ _ _ => pts_one (pt_cmpR (r := rIn K true) op_notIn_seq (pe_ix (r := rIxT K) ix_tup (pv 8) pe_int (fun _ _ => rfl)) (pv 4) (by rfl))) (fun _ _ _ _ _ => (pv 8))))
        (pss_cons (ps_asg (pe_ifExp (pt_cmpR (op_neD hr.units) (pv 5) (pe_lst pa_nil) (nomark _)) (pe_ix ix_list (pv 5) pe_int (fun _ _ => rfl)) (pe_tup (pa_cons (pv 1) (pa_cons (pe_ix ix_tup (pe_ix ix_list (pv 2) pe_int (fun _ _ => rfl)) pe_int (fun _ _ => rfl)) pa_nil)))) (pg_tup rfl (pgs_cons (pg_name (i := 6) sc_l_rule.nd rfl (.inr rfl)) (pgs_cons (pg_name (i := 7) sc_l_rule.nd rfl (.inr rfl)) pgs_nil))))
        (pss_cons (ps_expr (pe_bm PySem.F.plainAttrs_list PySem.F.slot_list_append PySem.F.type_list_append mt_append (pv 3) (pa_cons (pe_tup (pa_cons (pv 6) (pa_cons (pv 7) pa_nil))) pa_nil)))
        (pss_one (ps_setLc (i := 2) (own := [("_law_pair", 8)]) (g := gName 8) rfl sc_l_rule.nd rfl rfl (sw_true rfl rfl rfl (by decide +kernel)) (pi_list (pv 2)) (blkOk_by (N := NRu) (sc := defScope s_l_rule) (own := [("_law_pair", 8)]) (by decide +kernel)) (fun _ _ _ _ _ => pg_name (i := 8) sc_l_rule.nd rfl (Or.inl rfl)) (fun _ _ _ _ _ => pts_one (PW.pt (pw_or (pt_cmpR (r := rEqD K) (op_eqD hr.units) (pv 5) (pe_lst pa_nil) (nomark _)) (pw_or1 (pt_cmpR op_ne (pe_ix (r := rIxT K) ix_tup (pv 8) pe_int (fun _ _ => rfl)) (pv 6) (nomark _)))))) (fun _ _ _ _ _ => (pe_tup (pa_cons (pe_ix (r := rIxT K) ix_tup (pv 8) pe_int (fun _ _ => rfl)) (pa_cons (pe_ifExp (pt_cmpR op_eq (pe_ix (r := rIxT K) ix_tup (pv 8) pe_int (fun _ _ => rfl)) (pv 7) (nomark _)) (pv 6) (pe_ix (r := rIxT K) ix_tup (pv 8) pe_int (fun _ _ => rfl))) pa_nil)))))))))))
    (pss_one (ps_ret (pv 3))))), ?_⟩
  obtain ⟨u, ps, s, rfl, hu, l6, LF0, q⟩ := h
  cases hu with
  | @lst a xs _ ea ra =>
  have lx := ra.length
  rw [List.length_map] at lx
  refine ⟨_, rfl, _, rfl, ⟨_, SqL.of ea⟩, fun L nL => ?_⟩
  refine lc_it (walk_list (K := K) (a := a) (xs := xs)) (fun j H' => Same H H' ∧ ∃ acc, H' L = some (.lst acc) ∧ DTs H acc (((ps.take j).filter fun p => !decide (p.1 = p.2)).map pairD)) ⟨same_new nL, [], upd_same, .nil⟩ (fun i H' _ z => SqL.of (z.1 _ _ ea)) ?_ ?_
  · rintro j x H2 H3 hj ⟨s2, acc, hb, da⟩ ⟨rfl, hx⟩
    obtain ⟨pr, t, hp, rfl, ht⟩ := pair_at ra hx
    have ft := filter_take' (f := fun p : Pr => !decide (p.1 = p.2)) hp
    have dx := ra.get hx (show (ps.map pairD)[j]? = some (pairD pr) by rw [List.getElem?_map, hp]; rfl)
    refine ⟨rfl, ?_⟩
    refine ⟨_, rfl, t, _, 0, _, rfl, rfl, SqT.of (s2 _ _ ht), rfl, _, rfl, t, _, 1, _, rfl, rfl, SqT.of (s2 _ _ ht), rfl, rfl, _, rfl, ifNeI (fun ne => ?_) (fun eq => ?_)⟩
    · refine ⟨_, rfl, acc, hb, ?_, ?_, _, upd_same, ?_⟩
      · have := da.length
        have l2 := List.length_filter_le (fun p : Pr => !decide (p.1 = p.2)) (ps.take j)
        rw [List.length_map] at this
        rw [List.length_take] at l2
        exact small1000' (by omega)
      · intro b o e
        rw [upd_ne (ne_of_none e nL)]
        exact s2 _ _ e
      · rw [ft, if_pos (by simp [ne]), List.map_append]
        exact da.snoc dx
    · refine ⟨s2, acc, hb, ?_⟩
      rw [ft, if_neg (by simp [eq]), List.append_nil]
      exact da
  · rintro H2 ⟨s2, acc, hb, da⟩
    rw [lx, List.take_length] at da
    have daH2 := da.same s2 _
    generalize hlf : (ps.filter fun p => !decide (p.1 = p.2)) = lf0 at da daH2
    rw [unl_fun] at hlf
    rw [hlf] at LF0 q
    have l0 : lf0.length ≤ 40 := by
      rw [← hlf]
      exact Nat.le_trans (List.length_filter_le _ _) l6
    refine ⟨Nat.zero_le _, fun D nD => ⟨_, _, rfl, ?_⟩⟩
    have nDH : H D = none := s2.free nD
    have nLD : L ≠ D := ne_of_none hb nD
    have al := able_le lf0
    refine ⟨WRu a D s lf0 H, ⟨left lf0, none, none, none, none, L, lf0, [], left lf0, rfl, rfl, LF0, l0, Nat.le_succ _, rfl, by unfold left; rw [List.length_nil]; omega, ?_, ?_, s2.trans (same_new nD)⟩, ?_⟩
    · refine .lst (hid_at (nin1 nLD) (same_new nD _ _ hb)) (daH2.same ?_ _)
      intro b o e
      exact hid_at (nin1 (ne_of_none e nD)) (same_new nD _ _ e)
    · exact ⟨[], upd_same, .nil⟩
    clear hb da daH2 s2 l0 nL nLD al
    rintro m σ H3 ⟨x4, x5, x6, x7, L', lf, row, n, rfl, rfl, lfI, l6', bn, eqn, bF, dL, ⟨racc, hD, dr⟩, s3⟩
    cases dL with
    | @lst _ lv _ eL rL =>
    obtain ⟨nLD, hL⟩ := hid_out eL
    refine ⟨_, rfl, Nat.zero_le _, fun e ne => ?_⟩
    have g3 := same_new (o := .lst []) ne
    have rLH : DTs H3 lv (lf.map pairD) := rL.same hid_same _
    obtain ⟨x, y, dx, dy, sx, sy, ev⟩ := cmp_nil (K := K) (H := upd H3 e (.lst [])) (e := e) (DT.lst (g3 _ _ hL) (rLH.same g3 _)) upd_same (show lf.length < 1000 by omega)
    refine ⟨x, y, dx, dy, sx, sy, _, rfl, ?_⟩
    rw [ev]
    clear dx dy sx sy ev
    have hD3 := g3 _ _ hD
    have dr3 : DTs (hid [D] (upd H3 e (.lst []))) racc (row.map pairD) := dr.same (Keep.hid (same_keep g3)) _
    have rL3 : DTs (hid [D] (upd H3 e (.lst []))) lv (lf.map pairD) := rL.same (Keep.hid (same_keep g3)) _
    have hL3 := g3 _ _ hL
    have s33 := s3.trans g3
    generalize upd H3 e (.lst []) = H4 at hD3 dr3 rL3 hL3 s33 ⊢
    by_cases el : lf = []
    · subst el
      refine iteF ?_
      have er : row = ruleM s lf0 := by
        rw [← eqn]
        have : runM s n ([] : List Pr) = ([], []) := by cases n <;> rfl
        rw [this, List.append_nil]
      exact ⟨_, rfl, q D H4 nDH s33 (.lst hD3 (er ▸ dr3.same hid_same _))⟩
    · have ee : lf.isEmpty = false := by
        cases lf with
        | nil => exact absurd rfl el
        | cons _ _ => rfl
      rw [ee]
      obtain ⟨less, lf2, en1⟩ : left (stepM s lf).2 < left lf ∧ Lf s (stepM s lf).2 ∧ ∀ k, runM s (k + 1) lf = ((stepM s lf).1 :: (runM s k (stepM s lf).2).1, (runM s k (stepM s lf).2).2) := by
        cases lf with
        | nil => exact absurd rfl el
        | cons p t => exact ⟨step_less lfI, step_lf lfI, fun k => rfl⟩
      obtain ⟨n, rfl⟩ : ∃ k, n = k + 1 := by
        refine ⟨n - 1, ?_⟩
        have : 0 < lf.length := List.length_pos_iff.mpr el
        unfold left at bn
        omega
      have lst2 : (stepM s lf).2.length ≤ lf.length := by
        rw [← next_eq (s := s) el, List.length_map]
        exact List.length_filter_le ..
      refine iteT ⟨WRu a D s lf0 H (left (stepM s lf).2), fun σ' H' z => ⟨_, less, z⟩, ?_⟩
      have lv6 := rL3.length
      rw [List.length_map] at lv6
      -- what is read
      refine ⟨_, rfl, _, rfl, ⟨_, SqL.of hL3⟩, fun R nR => lc_mapW (walk_list (K := K) (a := L') (xs := lv)) (ys := lf.map fun p => V.int p.2) (fun H' s' => SqL.of (s' _ _ hL3)) (fun j H x H' y => y.1) nR (by rw [List.length_map, lv6]) (by omega) ?_ ?_⟩
      · rintro j x y H' Q' s1 ⟨_, hx⟩ hy q'
        obtain ⟨pr, t, hp, rfl, ht⟩ := pair_at (rL3.same hid_same _) hx
        rw [List.getElem?_map, hp] at hy
        obtain rfl : V.int pr.2 = y := Option.some.inj hy
        exact ⟨_, rfl, t, _, 1, _, rfl, rfl, SqT.of (s1 _ _ ht), rfl, q' _ (Same.refl _)⟩
      intro H5 g5 hR
      have hD5 := g5 _ _ hD3
      have dr5 : DTs (hid [D] H5) racc (row.map pairD) := dr3.same (Keep.hid (same_keep g5)) _
      have rL5 : DTs (hid [D] H5) lv (lf.map pairD) := rL3.same (Keep.hid (same_keep g5)) _
      have hL5 := g5 _ _ hL3
      have s35 := s33.trans g5
      clear hD3 dr3 rL3 hL3 s33 g5 nR rLH rL hL hD dr s3
      -- what is free
      refine ⟨_, rfl, _, rfl, ⟨_, SqL.of hL5⟩, fun Fr nF => ?_⟩
      refine lc_it (walk_list (K := K) (a := L') (xs := lv)) (fun j H' => Same H5 H' ∧ ∃ acc, H' Fr = some (.lst acc) ∧ DTs (hid [D] H5) acc (((lf.take j).filter (isFree lf)).map pairD)) ⟨same_new nF, [], upd_same, .nil⟩ (fun i H' _ z => SqL.of (z.1 _ _ hL5)) ?_ ?_
      · rintro j x H2' H6 hj ⟨s2, acc, hb, da⟩ ⟨rfl, hx⟩
        obtain ⟨pr, t, hp, rfl, ht⟩ := pair_at (rL5.same hid_same _) hx
        have ft := filter_take' (f := isFree lf) hp
        have dx := rL5.get hx (show (lf.map pairD)[j]? = some (pairD pr) by rw [List.getElem?_map, hp]; rfl)
        refine ⟨rfl, ?_⟩
        refine ⟨_, rfl, t, _, 0, _, rfl, rfl, SqT.of (s2 _ _ ht), rfl, _, rfl, R, lf.map fun p => V.int p.2, rfl, .inl (SqL.of (s2 _ _ hR)), rfl, ?_, _, rfl, ?_⟩
        · have := flat_ints (lf.map (·.2))
          rwa [List.map_map] at this
        have e1 : inV (.int pr.1) (lf.map fun p => V.int p.2) = decide (pr.1 ∈ lf.map (·.2)) := by
          have := inV_ints (a := pr.1) (ns := lf.map (·.2))
          rwa [List.map_map] at this
        show if (!inV (.int pr.1) (lf.map fun p => V.int p.2)) = true then _ else _
        rw [e1]
        refine ifB (fun hb1 => ?_) (fun hb1 => ?_)
        · refine ⟨_, rfl, acc, hb, ?_, ?_, _, upd_same, ?_⟩
          · have := da.length
            have l2 := List.length_filter_le (isFree lf) (lf.take j)
            rw [List.length_map] at this
            rw [List.length_take] at l2
            exact small1000' (by omega)
          · intro b o e
            rw [upd_ne (ne_of_none e nF)]
            exact s2 _ _ e
          · rw [ft, if_pos (show isFree lf pr = true from hb1), List.map_append]
            exact da.snoc dx
        · refine ⟨s2, acc, hb, ?_⟩
          rw [ft, if_neg (fun z => by rw [show isFree lf pr = false from hb1] at z; cases z), List.append_nil]
          exact da
      rintro H6 ⟨g6, fv, hF, dF⟩
      rw [lv6, List.take_length] at dF
      have hD6 := g6 _ _ hD5
      have k6 : Same (hid [D] H5) (hid [D] H6) := Keep.hid (same_keep g6)
      have dr6 := dr5.same k6 _
      have rL6 := rL5.same k6 _
      have hL6 := g6 _ _ hL5
      have s36 := s35.trans g6
      have dF6 := dF.same k6 _
      have nFD : Fr ≠ D := (ne_of_none hD5 nF).symm
      clear hD5 dr5 rL5 hL5 s35 g6 hR dF k6
      have lF := dF6.length
      rw [List.length_map] at lF
      have lF2 := List.length_filter_le (isFree lf) lf
      -- the one that is done
      refine ⟨_, rfl, Nat.zero_le _, fun e2 ne2 => ?_⟩
      have g7 := same_new (o := .lst []) ne2
      obtain ⟨x, y, dx, dy, sx, sy, ev⟩ := cmp_nil (K := K) (H := upd H6 e2 (.lst [])) (e := e2) (DT.lst (g7 _ _ hF) ((dF6.same hid_same _).same g7 _)) upd_same (show (lf.filter (isFree lf)).length < 1000 by omega)
      refine ⟨x, y, dx, dy, sx, sy, _, rfl, ?_⟩
      rw [ev]
      clear dx dy sx sy ev
      have hD7 := g7 _ _ hD6
      have k7 : Same (hid [D] H6) (hid [D] (upd H6 e2 (.lst []))) := Keep.hid (same_keep g7)
      have dr7 := dr6.same k7 _
      have rL7 := rL6.same k7 _
      have hL7 := g7 _ _ hL6
      have s37 := s36.trans g7
      have dF7 := dF6.same k7 _
      have hF7 := g7 _ _ hF
      generalize upd H6 e2 (.lst []) = H7 at hD7 dr7 rL7 hL7 s37 dF7 hF7 ⊢
      clear k7 dr6 rL6 hD6 hL6 s36 dF6 hF g7 ne2
      have ep : ∀ p r, lf.filter (isFree lf) = p :: r → (stepM s lf).1 = p := fun p r e => by
        rw [step_some (pick_cons (s := s) e)]
      have en : ∀ h t, lf.filter (isFree lf) = [] → lf = h :: t → (stepM s lf).1 = (s, h.1) := fun h t e e2 => by
        have := pick_nil e
        rw [e2] at this ⊢
        rw [step_none this]
      have nx := next_eq (s := s) el
      generalize (stepM s lf).1 = one at ep en nx en1
      generalize lf.filter (isFree lf) = fl at ep en dF7 lF lF2 nx
      cases hfl : fl
      case' cons p r =>
        have eo := ep p r hfl
        obtain ⟨x0, hx0⟩ : ∃ x, fv[0]? = some x := ⟨_, List.getElem?_eq_getElem (by rw [lF, hfl]; exact Nat.succ_pos _)⟩
        obtain ⟨p', t, h1, rfl, ht⟩ := pair_at dF7 hx0
        obtain rfl : p = p' := by
          rw [hfl] at h1
          exact Option.some.inj h1
        have ht7 := (hid_out ht).2
        rw [← eo] at ht7
        refine iteT ⟨_, rfl, Fr, fv, 0, .ref t, rfl, rfl, SqL.of hF7, atI_nat (j := 0) hx0, t, [.int one.1, .int one.2], rfl, SqT.of ht7, rfl, _, _, rfl, _, _, rfl, rfl, ?_⟩
        obtain ⟨H8, e8, g8⟩ : ∃ H8, H8 = H7 ∧ Same H7 H8 := ⟨_, rfl, Same.refl _⟩
        rw [← e8]
        clear e8
      case' nil =>
        obtain ⟨x0, hx0⟩ : ∃ x, lv[0]? = some x := ⟨_, List.getElem?_eq_getElem (by rw [lv6]; exact List.length_pos_iff.mpr el)⟩
        obtain ⟨p', t, h1, rfl, ht⟩ := pair_at (rL7.same hid_same _) hx0
        obtain ⟨h', t', elf⟩ : ∃ h t, lf = h :: t := by
          cases lf with
          | nil => exact absurd rfl el
          | cons h t => exact ⟨h, t, rfl⟩
        obtain rfl : h' = p' := by
          rw [elf] at h1
          exact Option.some.inj h1
        have eo := en h' t' hfl elf
        refine iteF ⟨_, rfl, _, rfl, L', lv, 0, .ref t, rfl, rfl, SqL.of hL7, atI_nat (j := 0) hx0, t, _, 0, _, rfl, rfl, SqT.of ht, rfl, (show 2 ≤ sizeLine by decide), fun tt ntt => ⟨tt, [.int one.1, .int one.2], rfl, SqT.of (by rw [eo]; exact upd_same), rfl, _, _, rfl, _, _, rfl, rfl, ?_⟩⟩
        have g8 := same_new (o := .tup [.int s, .int h'.1]) ntt
        generalize upd H7 tt (.tup [.int s, .int h'.1]) = H8 at g8 ⊢
      all_goals
        have hD8 := g8 _ _ hD7
        have k8 : Same (hid [D] H7) (hid [D] H8) := Keep.hid (same_keep g8)
        have dr8 := dr7.same k8 _
        have rL8 := rL7.same k8 _
        have hL8 := g8 _ _ hL7
        have s38 := s37.trans g8
        have dF8 := dF7.same k8 _
        have hF8 := g8 _ _ hF7
        clear eo ht hx0 hD7 dr7 rL7 hL7 s37 dF7 hF7 g8 k8
        have lr := dr8.length
        rw [List.length_map] at lr
        refine ⟨_, rfl, .inl ⟨rfl, _, SqL.of hD8⟩, _, rfl, _, rfl, (show 2 ≤ sizeLine by decide), fun tt ntt => ?_⟩
        refine ⟨D, racc, _, rfl, rfl, same_new ntt _ _ hD8, small1000' (by omega), ?_⟩
        have ntD : tt ≠ D := (ne_of_none hD8 ntt).symm
        have k9 : Keep [D] H8 (upd (upd H8 tt (.tup [.int one.1, .int one.2])) D (.lst (racc ++ [.ref tt]))) := by
          intro b o nb e
          rw [upd_ne (fun z => nb (by simp [z]))]
          exact same_new ntt _ _ e
        have s39 : Same H (upd (upd H8 tt (.tup [.int one.1, .int one.2])) D (.lst (racc ++ [.ref tt]))) := fun b o e => by
          rw [upd_ne (ne_of_none e nDH)]
          exact same_new ntt _ _ (s38 _ _ e)
        have dr9 : DTs (hid [D] (upd (upd H8 tt (.tup [.int one.1, .int one.2])) D (.lst (racc ++ [.ref tt])))) (racc ++ [.ref tt]) ((row ++ [one]).map pairD) := by
          rw [List.map_append]
          exact DTs.snoc (dr8.same k9.hid _) (.tup (hid_at (nin1 ntD) (by rw [upd_ne ntD]; exact upd_same)) (.cons (.int _) (.cons (.int _) .nil)))
        have rL9 := rL8.same k9.hid _
        have dF9 := dF8.same k9.hid _
        have hL9 := k9 _ _ nLD hL8
        have hF9 := k9 _ _ (nin1 nFD) hF8
        have hD9 : (upd (upd H8 tt (.tup [.int one.1, .int one.2])) D (.lst (racc ++ [.ref tt]))) D = some (.lst (racc ++ [.ref tt])) := upd_same
        generalize upd (upd H8 tt (.tup [.int one.1, .int one.2])) D (.lst (racc ++ [.ref tt])) = H9 at s39 dr9 rL9 dF9 hL9 hF9 hD9 ⊢
        clear k9 ntt ntD dr8 rL8 dF8 hL8 hF8 hD8 s38
        refine ⟨_, rfl, _, rfl, ⟨_, SqL.of hL9⟩, fun L2 nL2 => ?_⟩
        have n2D : L2 ≠ D := (ne_of_none hD9 nL2).symm
        obtain ⟨kf, hkf⟩ : ∃ kf : Pr → Bool, kf = fun q => fl.isEmpty || !decide (q.1 = one.1) := ⟨_, rfl⟩
        refine lc_it (walk_list (K := K) (a := L') (xs := lv)) (fun j H' => Same H9 H' ∧ ∃ acc, H' L2 = some (.lst acc) ∧ DTs (hid [D, L2] H') acc ((((lf.take j).filter kf).map (fun q : Pr => (q.1, if q.2 = one.2 then one.1 else q.2))).map pairD)) ⟨same_new nL2, [], upd_same, .nil⟩ (fun i H' _ z => SqL.of (z.1 _ _ hL9)) ?_ ?_
        · rintro j x H2' H10 hj ⟨s2, acc, hb, da⟩ ⟨rfl, hx⟩
          obtain ⟨pr, t, hp, rfl, ht⟩ := pair_at (rL9.same hid_same _) hx
          have ft := filter_take' (f := kf) hp
          have lac := da.length
          have l2 := List.length_filter_le kf (lf.take j)
          rw [List.length_map, List.length_map] at lac
          rw [List.length_take] at l2
          have kept : ∀ (H11 : Hp) (tt : Addr) (v2 : Int), Same H10 H11 → H11 tt = none → v2 = (if pr.2 = one.2 then one.1 else pr.2) → kf pr = true →
              ∃ acc', (upd H11 tt (.tup [.int pr.1, .int v2])) L2 = some (.lst acc') ∧ acc'.length < sizeLine ∧ Same H9 (upd (upd H11 tt (.tup [.int pr.1, .int v2])) L2 (.lst (acc' ++ [.ref tt]))) ∧
                ∃ acc, (upd (upd H11 tt (.tup [.int pr.1, .int v2])) L2 (.lst (acc' ++ [.ref tt]))) L2 = some (.lst acc) ∧ DTs (hid [D, L2] (upd (upd H11 tt (.tup [.int pr.1, .int v2])) L2 (.lst (acc' ++ [.ref tt])))) acc ((((lf.take (j + 1)).filter kf).map (fun q : Pr => (q.1, if q.2 = one.2 then one.1 else q.2))).map pairD) := by
            intro H11 tt v2 s11 ntt ev hk
            have hb11 := s11 _ _ hb
            have nt2 : tt ≠ L2 := (ne_of_none hb11 ntt).symm
            have ntD : tt ≠ D := (ne_of_none (s11 _ _ (s2 _ _ hD9)) ntt).symm
            refine ⟨acc, same_new ntt _ _ hb11, small1000' (by omega), ?_, _, upd_same, ?_⟩
            · intro b o e
              rw [upd_ne (ne_of_none e nL2)]
              exact same_new ntt _ _ (s11 _ _ (s2 _ _ e))
            · rw [ft, if_pos hk, List.map_append, List.map_append]
              have kk : Keep [D, L2] H10 (upd (upd H11 tt (.tup [.int pr.1, .int v2])) L2 (.lst (acc ++ [.ref tt]))) := by
                intro b o nb e
                rw [upd_ne (fun z => nb (by simp [z]))]
                exact same_new ntt _ _ (s11 _ _ e)
              refine DTs.snoc (da.same kk.hid _) (.tup (hid_at (by simp [nt2, ntD]) (by rw [upd_ne nt2]; exact upd_same)) (.cons (.int _) (.cons ?_ .nil)))
              show DT _ (.int v2) (.int (if pr.2 = one.2 then one.1 else pr.2))
              rw [← ev]
              exact .int _
          refine ⟨rfl, ?_⟩
          refine ⟨_, rfl, Nat.zero_le _, fun e ne => ?_⟩
          have g11 := same_new (o := .lst []) ne
          obtain ⟨x, y, dx, dy, sx, sy, ev⟩ := cmp_nil (K := K) (H := upd H10 e (.lst [])) (e := e) (DT.lst (g11 _ _ (s2 _ _ hF9)) (((dF9.same hid_same _).same s2 _).same g11 _)) upd_same (show fl.length < 1000 by omega)
          refine ⟨x, y, dx, dy, sx, sy, _, rfl, ?_⟩
          rw [ev]
          clear dx dy sx sy ev
          have ht10 := g11 _ _ (s2 _ _ ht)
          generalize upd H10 e (.lst []) = H11 at g11 ht10 ⊢
          have sT : SqT K H11 t [.int pr.1, .int pr.2] := SqT.of ht10
          cases hfe : fl.isEmpty
          case' false =>
            refine iteF ⟨_, rfl, t, _, 0, _, rfl, rfl, sT, rfl, _, rfl, rfl, _, rfl, ifNeI (fun ne => ?_) (fun eq => ⟨s2.trans g11, acc, g11 _ _ hb, by
            rw [ft, if_neg (by rw [hkf]; simp [hfe, eq]), List.append_nil]
            exact da.same (Keep.hid (same_keep g11)) _⟩)⟩
            have hk : kf pr = true := by
              rw [hkf]
              show (fl.isEmpty || !decide (pr.1 = one.1)) = true
              rw [hfe, decide_eq_false ne]
              rfl
          case' true =>
            refine iteT ?_
            have hk : kf pr = true := by
              rw [hkf]
              show (fl.isEmpty || !decide (pr.1 = one.1)) = true
              rw [hfe]
              rfl
          all_goals
            refine ⟨_, rfl, t, _, 0, _, rfl, rfl, sT, rfl, _, rfl, t, _, 1, _, rfl, rfl, sT, rfl, _, rfl, rfl, _, rfl, ifEqI (fun eq => ?_) (fun ne => ?_)⟩
            · refine ⟨_, rfl, (show 2 ≤ sizeLine by decide), fun tt ntt => ?_⟩
              exact kept H11 tt _ g11 ntt (by rw [if_pos eq]) hk
            · refine ⟨_, rfl, t, _, 1, _, rfl, rfl, sT, rfl, (show 2 ≤ sizeLine by decide), fun tt ntt => ?_⟩
              exact kept H11 tt _ g11 ntt (by rw [if_neg ne]) hk
        · rintro H10 ⟨s2, acc, hb, da⟩
          rw [lv6, List.take_length] at da
          refine ⟨some (.ref R), some (.ref Fr), some (.int one.1), some (.int one.2), L2, (stepM s lf).2, row ++ [one], n, rfl, rfl, lf2, by omega, by omega, ?_, by rw [List.length_append, List.length_singleton]; omega, ?_, ?_, s39.trans s2⟩
          · rw [← eqn, en1, List.append_assoc]
            rfl
          · rw [hkf] at da
            have da : DTs (hid [D, L2] H10) acc (((lf.filter fun q => fl.isEmpty || !decide (q.1 = one.1)).map fun q => (q.1, if q.2 = one.2 then one.1 else q.2)).map pairD) := da
            rw [nx] at da
            exact .lst (hid_at (nin1 n2D) hb) (da.same (hid_mono (by simp)) _)
          · exact ⟨_, s2 _ _ hD9, dr9.same (Keep.hid (same_keep s2)) _⟩
end
end Cb
set_option Elab.async false
set_option linter.all false
set_option maxRecDepth 100000
set_option maxHeartbeats 4000000
namespace Cb
open PySem PySem.Spec PyProof.Rows L2
abbrev s_l_walked : Stmt := topS 30
abbrev NWk : List Str := ["_law_row", "_law_registers", "_law_held", "_law_one", "_law_other", "_law_spot"]
theorem sc_l_walked : FnScope NWk ["_law_row", "_law_registers"] (defScope s_l_walked) := ⟨rfl, rfl, rfl, by decide +kernel, rfl, by decide +kernel, by decide +kernel⟩
structure TWk (K : PySem.W.Frag) (mg : Str → Option Value) : Prop where
  d_l_walked : Has K mg "_law_walked" s_l_walked ["_law_row", "_law_registers"]
  b_dict : mg "dict" = none
section
variable {P : Program} {w : World} {K : PySem.W.Frag} {mg : Str → Option Value} {base : Heap}
def sp_walked : Sp := fun vs H Q _ => ∃ (v : V) (row : List Pr) (q1 : Addr) (ns : List Int), vs = [v, .ref q1] ∧ DT H v (.list (row.map pairD)) ∧ H q1 = some (.lst (ns.map V.int)) ∧ ns.Nodup ∧ ns.length ≤ 200 ∧ (∀ p ∈ row, p.1 ∈ ns ∧ p.2 ∈ ns) ∧
  ∀ (p : Addr) (H' : Hp), H p = none → Same H H' → H' p = some (.dK (hk ns (walkF row fun x => x))) → Q (.ref p) H'
theorem c_l_walked (T : TWk K mg) : Says P w K mg base 1 "_law_walked" ["_law_row", "_law_registers"] sp_walked := by
  refine says T.d_l_walked sc_l_walked (fun vs H Q E h => ?_) (fun f cdv A outer st H vs Q E hr h => ?_)
  · obtain ⟨_, _, _, _, rfl, _⟩ := h; rfl
  refine ⟨_, (pss_cons (ps_set (i := 2) sc_l_walked.nd rfl (.inl rfl) (pe_callTy (call_dictP rfl) (by rfl) T.b_dict (by decide +kernel) (pa_cons (pe_lc (own := [("_law_spot", 5)]) (g := gName 5) (tt := tYes) rfl sc_l_walked.nd (pi_list (pv 1)) (blkOk_by (N := NWk) (sc := defScope s_l_walked) (own := [("_law_spot", 5)]) (by decide +kernel)) (fun _ _ _ _ _ => pg_name (i := 5) sc_l_walked.nd rfl (Or.inl rfl)) (fun _ _ _ _ _ => pts_nil) (fun _ _ _ _ _ => (pe_tup (pa_cons (pv 5) (pa_cons (pv 5) pa_nil))))) pa_nil)))
    (pss_cons (ps_for PassesOwn.never rfl (pi_list (pv 0)) (pg_tup rfl (pgs_cons (pg_name (i := 3) sc_l_walked.nd rfl (.inl rfl)) (pgs_cons (pg_name (i := 4) sc_l_walked.nd rfl (.inl rfl)) pgs_nil)))
        (pss_one (ps_dput (hu_of hr) (pv 2) (pv 3) (pe_dget (hu_of hr) (pv 2) (pv 4) (fun _ _ => rfl)) rfl)))
    (pss_one (ps_ret (pv 2))))), ?_⟩
  obtain ⟨v, row, q1, ns, rfl, hv, hq, nd, small, R, q⟩ := h
  obtain ⟨b, ys, rfl, eb, rb⟩ := hv.refl'
  have ly := rb.length
  rw [List.length_map] at ly
  refine ⟨_, rfl, q1, rfl, ⟨_, SqL.of hq⟩, fun D2 hD2 => ?_⟩
  refine lc_it (walk_list (K := K) (a := q1) (xs := ns.map V.int)) (fun j H' => Same H H' ∧ ∃ ts : List Addr, H' D2 = some (.lst (ts.map V.ref)) ∧ ts.length = j ∧ ∀ (i : Nat) (t : Addr) (r : Int), ts[i]? = some t → ns[i]? = some r → H' t = some (.tup [.int r, .int r]) ∧ t ≠ D2)
    ⟨same_new hD2, [], upd_same, rfl, fun i l p h => by simp at h⟩ (fun i H' _ z => SqL.of (z.1 _ _ hq)) ?_ ?_
  · rintro j x H6 H7 hj ⟨s6, ts, hD3, la, ha⟩ ⟨rfl, hx⟩
    rw [List.length_map] at hj
    have hx2 : ns[j]? = some ns[j] := List.getElem?_eq_getElem hj
    rw [List.getElem?_map, hx2] at hx
    obtain rfl : V.int ns[j] = x := Option.some.inj hx
    refine ⟨rfl, ?_⟩
    refine ⟨_, rfl, _, rfl, (show 2 ≤ sizeLine by decide), fun l nl => ?_⟩
    have nlD : l ≠ D2 := (ne_of_none hD3 nl).symm
    refine ⟨_, same_new nl _ _ hD3, ?_, ?_, ts ++ [l], ?_, ?_, ?_⟩
    · rw [List.length_map, la]
      exact small1000' (by omega)
    · intro b' o e
      rw [upd_ne (ne_of_none e hD2)]
      exact same_new nl _ _ (s6 _ _ e)
    · rw [upd_same, List.map_append]
      rfl
    · rw [List.length_append, la]
      rfl
    · intro i l' p' h1 h2
      by_cases hi : i < ts.length
      · rw [List.getElem?_append_left hi] at h1
        obtain ⟨z1, z2⟩ := ha i l' p' h1 h2
        exact ⟨by rw [upd_ne z2]; exact same_new nl _ _ z1, z2⟩
      · rw [List.getElem?_append_right (by omega)] at h1
        have hi0 : i - ts.length = 0 := by
          have := (List.getElem?_eq_some_iff.mp h1).1
          simp at this
          omega
        rw [hi0] at h1
        obtain rfl : l = l' := by simpa using h1
        obtain rfl : i = j := by omega
        obtain rfl : ns[i] = p' := Option.some.inj (hx2.symm.trans h2)
        exact ⟨by rw [upd_ne nlD]; exact upd_same, nlD⟩
  · rintro H6 ⟨s6, ts, hD3, la, ha⟩
    rw [List.length_map] at la
    refine ⟨D2, ts, hk ns fun x => x, rfl, SqL.of hD3, ?_, fun dd ndd => ?_⟩
    · refine paired_of (by rw [la, hk, List.length_map]) fun i t kv h1 h2 => ?_
      rw [hk, List.getElem?_map] at h2
      cases h3 : ns[i]? with
      | none =>
        rw [h3] at h2
        cases h2
      | some r =>
        rw [h3] at h2
        obtain rfl := Option.some.inj h2
        exact SqT.of (ha i t r h1 h3).1
    rw [hk_merge nd]
    have nd1 : H dd = none := s6.free ndd
    have s7 := s6.trans (same_new (o := .dK (hk ns fun x => x)) ndd)
    have hdd : (upd H6 dd (.dK (hk ns fun x => x))) dd = some (.dK (hk ns fun x => x)) := upd_same
    generalize upd H6 dd (.dK (hk ns fun x => x)) = H9 at s7 hdd ⊢
    have eb9 := s7 _ _ eb
    have rb9 := rb.same s7 _
    have nb : b ≠ dd := ne_ho eb9 hdd (by intro z; cases z)
    have hkl : ∀ f : Int → Int, (hk ns f).length < sizeLine := fun f => by
      rw [hk, List.length_map]
      exact small1000' (by omega)
    refine ⟨_, rfl, b, rfl, ⟨_, SqL.of eb9⟩, for_list (xs := ys) (fun i σ H' => (∃ x3 x4 : Option V, σ = [some (.ref b), some (.ref q1), some (.ref dd), x3, x4, none]) ∧ H' = upd H9 dd (.dK (hk ns (walkF (row.take i) fun x => x))))
      ⟨⟨_, _, rfl⟩, (upd_self hdd).symm⟩ (fun i σ H' _ z => by rw [z.2]; exact SqL.of (by rw [upd_ne nb]; exact eb9)) ?_ ?_⟩
    · rintro i x σ H' hx ⟨⟨x3, x4, rfl⟩, rfl⟩
      obtain ⟨pr, t, hpi, rfl, ht⟩ := pair_at rb9 hx
      obtain ⟨m1, m2⟩ := R pr (List.mem_of_getElem? hpi)
      have nt : t ≠ dd := ne_ho ht hdd (by intro z; cases z)
      refine ⟨t, _, rfl, SqT.of (by rw [upd_ne nt]; exact ht), rfl, _, _, rfl, _, _, rfl, rfl, ?_⟩
      have g := DGet.k (H := upd H9 dd (.dK (hk ns (walkF (row.take i) fun x => x)))) (k := Sum.inl pr.2) upd_same
      rw [hk_val m2] at g
      refine ⟨_, rfl, _, rfl, dd, _, rfl, g, ?_⟩
      refine ⟨_, rfl, _, rfl, dd, _, rfl, DPut.k (k := Sum.inl pr.1) upd_same (hkl _), ?_⟩
      refine ⟨⟨_, _, rfl⟩, ?_⟩
      rw [upd_upd, hk_put m1, walk_take hpi]
    · rintro σ H' ⟨⟨x3, x4, rfl⟩, rfl⟩
      rw [ly, List.take_length]
      refine ⟨_, rfl, q dd _ nd1 ?_ upd_same⟩
      intro b' o e
      rw [upd_ne (ne_of_none e nd1)]
      exact s7 _ _ e
end
end Cb
set_option Elab.async false
set_option linter.all false
set_option maxRecDepth 100000
set_option maxHeartbeats 4000000
namespace Cb
open PySem PySem.Spec PyProof.Rows L2
abbrev s_l_rings : Stmt := topS 32
abbrev NLr : List Str := ["_law_shuffle_here", "_law_told", "_law_found", "_law_start", "_law_ring", "_law_readers", "_law_pair", "_law_one"]
theorem sc_l_rings : FnScope NLr ["_law_shuffle_here"] (defScope s_l_rings) := ⟨rfl, rfl, rfl, by decide +kernel, rfl, by decide +kernel, by decide +kernel⟩
structure TLr (K : PySem.W.Frag) (mg : Str → Option Value) : Prop where
  d_l_rings : Has K mg "_law_rings" s_l_rings ["_law_shuffle_here"]
  b_dict : mg "dict" = none
  b_sorted : mg "sorted" = none
  b_min : mg "min" = none
  b_len : mg "len" = none
theorem iteA {b : Bool} {A B : Prop} (h : b = true → A) (g : b = false → B) : if b = true then A else B := by
  cases b with
  | true => exact iteT (h rfl)
  | false => exact iteF (g rfl)
def vOf : Option Int → V
  | none => .non
  | some y => .int y
section
variable {P : Program} {w : World} {K : PySem.W.Frag} {mg : Str → Option Value} {base : Heap}
theorem c_l_rings (T : TLr K mg) : Says P w K mg base 1 "_law_rings" ["_law_shuffle_here"] sp_rings := by
  refine says T.d_l_rings sc_l_rings (fun vs H Q E h => ?_) (fun f cdv A outer st H vs Q E hr h => ?_)
  · obtain ⟨_, _, rfl, _⟩ := h; rfl
  refine ⟨_, (pss_cons (ps_asg (pe_tup (pa_cons (pe_callTy (call_dictP rfl) (by rfl) T.b_dict (by decide +kernel) (pa_cons (pe_lc (own := [("_law_pair", 6)]) (g := gName 6) rfl sc_l_rings.nd (pi_list (pv 0)) (blkOk_by (N := NLr) (sc := defScope s_l_rings) (own := [("_law_pair", 6)]) (by decide +kernel)) (fun _ _ _ _ _ => pg_name (i := 6) sc_l_rings.nd rfl (Or.inl rfl)) (fun _ _ _ _ _ => pts_one (pt_cmpR op_ne (pe_ix (r := rIxT K) ix_tup (pv 6) pe_int (fun _ _ => rfl)) (pe_ix (r := rIxT K) ix_tup (pv 6) pe_int (fun _ _ => rfl)) (nomark _))) (fun _ _ _ _ _ => (pv 6))) pa_nil)) (pa_cons (pe_lst pa_nil) pa_nil))) (pg_tup rfl (pgs_cons (pg_name (i := 1) sc_l_rings.nd rfl (.inr rfl)) (pgs_cons (pg_name (i := 2) sc_l_rings.nd rfl (.inl rfl)) pgs_nil))))
    (pss_cons (ps_for PassesOwn.never rfl (pi_list (pe_callB (call_sortedDI rfl) (by rfl) T.b_sorted (by decide +kernel) (pa_cons (pv 1) pa_nil))) (pg_name (i := 3) sc_l_rings.nd rfl (.inl rfl))
        (pss_cons (ps_set (i := 4) sc_l_rings.nd rfl (.inr rfl) (pe_lst (pa_cons (pv 3) pa_nil)))
        (pss_cons (ps_while PassesOwn.never (PW.pt (pw_and (pt_cmpR op_notN (pe_dget1 (hu_of hr) (pv 1) (pe_ix ix_list (pv 4) (pe_op op_sub (pe_callB call_len_seq (by rfl) T.b_len (by decide +kernel) (pa_cons (pv 4) pa_nil)) pe_int) (fun _ _ => rfl)) ⟨rfl, rfl, rfl, rfl⟩) pe_non (nomark _)) (pw_and1 (pt_cmpR (r := rIn K true) op_notIn_seq (pe_dget (hu_of hr) (pv 1) (pe_ix ix_list (pv 4) (pe_op op_sub (pe_callB call_len_seq (by rfl) T.b_len (by decide +kernel) (pa_cons (pv 4) pa_nil)) pe_int) (fun _ _ => rfl)) (fun _ _ => rfl)) (pv 4) (by rfl)))))
            (pss_one (ps_expr (pe_bm PySem.F.plainAttrs_list PySem.F.slot_list_append PySem.F.type_list_append mt_append (pv 4) (pa_cons (pe_dget (hu_of hr) (pv 1) (pe_ix ix_list (pv 4) (pe_op op_sub (pe_callB call_len_seq (by rfl) T.b_len (by decide +kernel) (pa_cons (pv 4) pa_nil)) pe_int) (fun _ _ => rfl)) (fun _ _ => rfl)) pa_nil)))))
        (pss_cons (ps_lock (ps_setLc (i := 5) (own := [("_law_one", 7)]) (g := gName 7) rfl sc_l_rings.nd rfl rfl (sw_true rfl rfl rfl (by decide +kernel)) (pi_keys (pv 1)) (blkOk_by (N := NLr) (sc := defScope s_l_rings) (own := [("_law_one", 7)]) (by decide +kernel)) (fun _ _ _ _ _ => pg_name (i := 7) sc_l_rings.nd rfl (Or.inl rfl)) (fun _ _ _ _ _ => pts_one (pt_cmpR (r := rIn K false) op_in_seq (pe_dget (hu_of hr) (pv 1) (pv 7) (fun _ _ => rfl)) (pv 4) (by rfl))) (fun _ _ _ _ _ => (pv 7))))
        (pss_one (ps_if (PW.pt (pw_and (pt_cmpR op_eq (pe_dget1 (hu_of hr) (pv 1) (pe_ix ix_list (pv 4) (pe_op op_sub (pe_callB call_len_seq (by rfl) T.b_len (by decide +kernel) (pa_cons (pv 4) pa_nil)) pe_int) (fun _ _ => rfl)) ⟨rfl, rfl, rfl, rfl⟩) (pv 3) (nomark _)) (pw_and (pt_cmpR op_eq (pe_callB (cr_min rfl) (by rfl) T.b_min (by decide +kernel) (pa_cons (pv 4) pa_nil)) (pv 3) (nomark _)) (pw_and1 (pt_cmpR op_eq (pe_callB call_len_seq (by rfl) T.b_len (by decide +kernel) (pa_cons (pv 5) pa_nil)) (pe_callB call_len_seq (by rfl) T.b_len (by decide +kernel) (pa_cons (pv 4) pa_nil)) (nomark _))))))
            (pss_one (ps_expr (pe_bm PySem.F.plainAttrs_list PySem.F.slot_list_append PySem.F.type_list_append mt_append (pv 2) (pa_cons (pv 4) pa_nil))))
            pss_nil))))))
    (pss_one (ps_ret (pv 2))))), ?_⟩
  obtain ⟨v, ps, rfl, hd, S, q⟩ := h
  have few := S.few
  obtain ⟨a, xs, rfl, ea, ra⟩ := hd.refl'
  have lx := ra.length
  rw [List.length_map] at lx
  refine ⟨_, rfl, a, rfl, ⟨_, SqL.of ea⟩, fun L nL => ?_⟩
  refine lc_it (walk_list (K := K) (a := a) (xs := xs)) (fun j H' => Same H H' ∧ ∃ acc, H' L = some (.lst acc) ∧ DTs H acc (((ps.take j).filter unl).map pairD)) ⟨same_new nL, [], upd_same, .nil⟩ (fun i H' _ z => SqL.of (z.1 _ _ ea)) ?_ ?_
  · rintro j x H2 H3 hj ⟨s2, acc, hb, da⟩ ⟨rfl, hx⟩
    obtain ⟨pr, t, hp, rfl, ht⟩ := pair_at ra hx
    have ft := filter_take' (f := unl) hp
    have dx := ra.get hx (show (ps.map pairD)[j]? = some (pairD pr) by rw [List.getElem?_map, hp]; rfl)
    refine ⟨rfl, ?_⟩
    refine ⟨_, rfl, t, _, 0, _, rfl, rfl, SqT.of (s2 _ _ ht), rfl, _, rfl, t, _, 1, _, rfl, rfl, SqT.of (s2 _ _ ht), rfl, rfl, _, rfl, ifNeI (fun ne => ?_) (fun eq => ?_)⟩
    · refine ⟨_, rfl, acc, hb, ?_, ?_, _, upd_same, ?_⟩
      · have := da.length
        have l2 := List.length_filter_le unl (ps.take j)
        rw [List.length_map] at this
        rw [List.length_take] at l2
        exact small1000' (by omega)
      · intro b o e
        rw [upd_ne (ne_of_none e nL)]
        exact s2 _ _ e
      · rw [ft, if_pos (by simp [unl, ne]), List.map_append]
        exact da.snoc dx
    · refine ⟨s2, acc, hb, ?_⟩
      rw [ft, if_neg (by simp [unl, eq]), List.append_nil]
      exact da
  rintro H1 ⟨s1, acc, hb, da⟩
  rw [lx, List.take_length] at da
  have da1 := da.same s1 _
  have ndl : ((ps.filter unl).map (·.1)).Nodup := S.nd.sublist (List.Sublist.map _ List.filter_sublist)
  have ll : (ps.filter unl).length ≤ 40 := Nat.le_trans (List.length_filter_le ..) few
  generalize ps.filter unl = l at da da1 ndl ll q ⊢
  obtain ⟨as, eas, la, pp⟩ := pairs_addr (K := K) da1
  refine ⟨L, as, _, rfl, by rw [← eas]; exact SqL.of hb, pp, fun dd ndd => ?_⟩
  rw [dict_of ndl]
  refine ⟨Nat.zero_le _, fun F nF => ⟨(show 2 ≤ sizeLine by decide), fun t nt => ⟨t, _, rfl, SqT.of upd_same, rfl, _, _, rfl, _, _, rfl, rfl, ?_⟩⟩⟩
  have sA := same_new (o := .dK (l.map kvP)) ndd
  have sB := same_new (o := .lst []) nF
  have sC := same_new (o := .tup [.ref dd, .ref F]) nt
  have nFH : H F = none := (s1.trans sA).free nF
  have s4 := ((s1.trans sA).trans sB).trans sC
  have hdd4 := sC _ _ (sB _ _ (show (upd H1 dd (.dK (l.map kvP))) dd = _ from upd_same))
  have hF4 := sC _ _ (show (upd (upd H1 dd (.dK (l.map kvP))) F (.lst [])) F = _ from upd_same)
  generalize upd (upd (upd H1 dd (.dK (l.map kvP))) F (.lst [])) t (.tup [.ref dd, .ref F]) = H4 at s4 hdd4 hF4 ⊢
  clear sA sB sC nt nF ndd pp eas da da1 hb s1
  have ek : (l.map kvP).map (·.1) = (l.map (·.1)).map (Sum.inl (β := Str)) := by
    rw [List.map_map, List.map_map]
    rfl
  refine ⟨_, rfl, dd, _, l.map (·.1), rfl, .inl hdd4, ek, by rw [List.length_map]; omega, fun ns q2 perm rise nq2 => ?_⟩
  have es : ns = srtI (l.map (·.1)) := by
    have ndn : ns.Nodup := perm.nodup_iff.mpr ndl
    refine srt_is ndl ?_ fun z => perm.mem_iff
    exact List.Pairwise.imp₂ (fun a b (h1 : a ≤ b) (h2 : a ≠ b) => by omega) rise ndn
  subst es
  have nqF : q2 ≠ F := (ne_of_none hF4 nq2).symm
  have k5 := same_new (o := .lst ((srtI (l.map (·.1))).map V.int)) nq2
  have hq5 : (upd H4 q2 (.lst ((srtI (l.map (·.1))).map V.int))) q2 = some (.lst ((srtI (l.map (·.1))).map V.int)) := upd_same
  generalize upd H4 q2 (.lst ((srtI (l.map (·.1))).map V.int)) = H5 at k5 hq5 ⊢
  have s5 := s4.trans k5
  have hdd5 := k5 _ _ hdd4
  have hF5 := k5 _ _ hF4
  have nFd : dd ≠ F := ne_ho hdd5 hF5 (by intro z; cases z)
  have keepH : ∀ H', Keep [F] H5 H' → Same H H' := fun H' k b o e => k b o (nin1 (ne_of_none e nFH)) (s5 b o e)
  clear s4 hdd4 hF4 k5 nq2 rise perm
  refine ⟨q2, rfl, ⟨_, SqL.of hq5⟩, ?_⟩
  refine for_it (walk_list (K := K) (a := q2) (xs := (srtI (l.map (·.1))).map V.int)) (fun j σ H' => (∃ x3 x4 x5 : Option V, σ = [some (.ref a), some (.ref dd), some (.ref F), x3, x4, x5, none, none]) ∧ Keep [F] H5 H' ∧
      ∃ as : List Addr, H' F = some (.lst (as.map V.ref)) ∧ Paired (fun a r => H a = none ∧ a ≠ F ∧ H' a = some (.lst (r.map V.int))) as ((((srtI (l.map (·.1))).take j).filter (hedB l)).map (ringL l)))
    ⟨⟨_, _, _, rfl⟩, Keep.refl, [], hF5, .nil⟩ (fun j σ H' _ z => SqL.of (z.2.1 _ _ (nin1 nqF) hq5)) ?_ ?_
  · rintro j x σ H6 H7 hj ⟨⟨x3, x4, x5, rfl⟩, k6, as6, hF6, pa6⟩ ⟨rfl, hx⟩
    rw [List.length_map] at hj
    have hx2 : (srtI (l.map (·.1)))[j]? = some (srtI (l.map (·.1)))[j] := List.getElem?_eq_getElem hj
    rw [List.getElem?_map, hx2] at hx
    obtain rfl : V.int _ = x := Option.some.inj hx
    have mj : (srtI (l.map (·.1)))[j] ∈ l.map (·.1) := mem_srtI.mp (List.getElem_mem hj)
    generalize (srtI (l.map (·.1)))[j] = x0 at hx2 mj
    have ft := filter_take' (f := hedB l) hx2
    have dn := ringL_done l x0
    have asked := hed_asked (x := x0) ndl
    have hdd6 := k6 _ _ (nin1 nFd) hdd5
    have l6 := Paired.len pa6
    rw [List.length_map] at l6
    have l6' : as6.length ≤ 40 := by
      have h1 := List.length_filter_le (hedB l) ((srtI (l.map (·.1))).take j)
      have h2 := (srt_perm ndl).length_eq
      rw [List.length_take] at h1
      rw [List.length_map] at h2
      omega
    refine ⟨_, rfl, (show 1 ≤ sizeLine by decide), fun Rg nR => ?_⟩
    have nRF : Rg ≠ F := (ne_of_none hF6 nR).symm
    have nRd : Rg ≠ dd := (ne_of_none hdd6 nR).symm
    have nRH : H Rg = none := (keepH _ k6).free nR
    have g7 : Keep [Rg] H7 (upd H7 Rg (.lst [.int x0])) := keep_upd (by simp)
    have hR7 : (upd H7 Rg (.lst [.int x0])) Rg = some (.lst (([x0] : List Int).map V.int)) := upd_same
    generalize upd H7 Rg (.lst [.int x0]) = H8 at g7 hR7 ⊢
    have clR : ∀ {H' : Hp}, Keep [Rg] H7 H' → Keep [F] H5 H' := fun {H'} k b o nb e => k b o (nin1 (ne_of_none (k6 _ _ nb e) nR)) (k6 _ _ nb e)
    have keepP : ∀ {H' : Hp}, Keep [Rg] H7 H' → Paired (fun a r => H a = none ∧ a ≠ F ∧ H' a = some (.lst (r.map V.int))) as6 ((((srtI (l.map (·.1))).take j).filter (hedB l)).map (ringL l)) := fun {H'} k => Paired.keepH (fun a _ _ o e => k _ _ (nin1 (ne_of_none e nR)) e) pa6
    have stay : hedB l x0 = false → ∀ (x3 x4 x5 : Option V) (H' : Hp), Keep [Rg] H7 H' → (∃ x3' x4' x5' : Option V, [some (.ref a), some (.ref dd), some (.ref F), x3, x4, x5, none, none] = [some (.ref a), some (.ref dd), some (.ref F), x3', x4', x5', none, none]) ∧ Keep [F] H5 H' ∧
      ∃ as : List Addr, H' F = some (.lst (as.map V.ref)) ∧ Paired (fun a r => H a = none ∧ a ≠ F ∧ H' a = some (.lst (r.map V.int))) as ((((srtI (l.map (·.1))).take (j + 1)).filter (hedB l)).map (ringL l)) := by
      intro hf x3 x4 x5 H' k
      refine ⟨⟨_, _, _, rfl⟩, clR k, as6, k _ _ (nin1 (Ne.symm nRF)) hF6, ?_⟩
      rw [ft, if_neg (by rw [hf]; decide), List.append_nil]
      exact keepP k
    have noH : (∃ y ∈ ringL l x0, ¬ x0 ≤ y) ∨ ¬ Cyc l x0 ∨ ¬ (∀ p ∈ l, Orb l x0 p.2 → Orb l x0 p.1) → hedB l x0 = false := by
      intro h
      cases hb : hedB l x0 with
      | false => rfl
      | true =>
        exfalso
        obtain ⟨a1, a2, a3⟩ := asked.mp (hedB_iff.mp hb)
        rcases h with ⟨y, hy, n⟩ | h | h
        · exact n (a2 y hy)
        · exact h a1
        · exact h a3
    refine ⟨fun m σ H' => ∃ (R : List Int) (z : Int) (n : Nat), σ = [some (.ref a), some (.ref dd), some (.ref F), some (.int x0), some (.ref Rg), x5, none, none] ∧ Keep [Rg] H7 H' ∧ H' Rg = some (.lst (R.map V.int)) ∧ Tr l x0 R ∧ R[R.length - 1]? = some z ∧ lawGo l n z R = ringL l x0 ∧ l.length + 2 ≤ R.length + n ∧ m = n,
      ⟨l.length + 1, [x0], x0, l.length + 1, rfl, g7, hR7, Tr.one l x0, rfl, rfl, by rw [List.length_singleton]; omega, rfl⟩, ?_⟩
    clear hR7 g7
    rintro m σ H9 ⟨R, z, n, rfl, k9, hR9, tr, hz, eg, bn, rfl⟩
    have tl := tr.len
    have tp := List.length_pos_iff.mpr tr.ne
    obtain ⟨n, rfl⟩ : ∃ k, m = k + 1 := ⟨m - 1, by omega⟩
    have wz := tr.at_ _ _ hz
    have wR : wk l x0 R.length = lk l z := by
      rw [show R.length = (R.length - 1) + 1 by omega]
      show (wk l x0 (R.length - 1)).bind (lk l) = _
      rw [wz]
      rfl
    have hdd9 := k9 _ _ (nin1 (Ne.symm nRd)) hdd6
    have ix : ∀ X : Int, X = (((R.map V.int).length : Nat) : Int) - 1 → atI (R.map V.int) X = some (V.int z) := by
      intro X hX
      rw [hX, List.length_map, show ((R.length : Nat) : Int) - 1 = ((R.length - 1 : Nat) : Int) by omega]
      exact atI_nat (by rw [List.getElem?_map, hz]; rfl)
    have dg : ∀ {H' : Hp}, H' dd = some (.dK (l.map kvP)) → DGet H' dd (.int z) ((lk l z).map V.int) := by
      intro H' h
      rw [← tb_of l z]
      exact DGet.k (k := Sum.inl z) h
    have go1 : lawGo l (n + 1) z R = match lk l z with
      | none => R
      | some y => if y ∈ R then R else lawGo l n y (R ++ [y]) := rfl
    by_cases stp : ∀ y, lk l z = some y → y ∈ R
    · have eR : R = ringL l x0 := by
        rw [← eg, go1]
        cases hl : lk l z with
        | none => rfl
        | some y => simp only [if_pos (stp y hl)]
      clear eg go1
      subst eR
      cases hl : lk l z
      case' none =>
        refine ⟨_, rfl, dd, rfl, .inl ⟨_, .inl hdd9⟩, _, rfl, _, rfl, Rg, _, rfl, .inl (SqL.of hR9), _, _, rfl, rfl, Rg, _, _, V.int z, rfl, rfl, SqL.of hR9, ix _ rfl, _, dg hdd9, rfl, _, rfl, ?_⟩
        rw [hl]
        refine iteF ?_
      case' some y =>
        refine ⟨_, rfl, dd, rfl, .inl ⟨_, .inl hdd9⟩, _, rfl, _, rfl, Rg, _, rfl, .inl (SqL.of hR9), _, _, rfl, rfl, Rg, _, _, V.int z, rfl, rfl, SqL.of hR9, ix _ rfl, _, dg hdd9, rfl, _, rfl, ?_⟩
        rw [hl]
        have dgy := dg hdd9
        rw [hl] at dgy
        refine iteT ⟨_, rfl, _, rfl, _, rfl, Rg, _, rfl, .inl (SqL.of hR9), _, _, rfl, rfl, Rg, _, _, V.int z, rfl, rfl, SqL.of hR9, ix _ rfl, dd, _, rfl, dgy, _, rfl, Rg, _, rfl, .inl (SqL.of hR9), rfl, flat_ints _, _, rfl, ?_⟩
        show if (!inV (.int y) ((ringL l x0).map V.int)) = true then _ else _
        rw [inV_ints, decide_eq_true (stp y hl)]
        refine iteF ?_
      all_goals
        rw [hl] at wR
        -- who reads it
        refine ⟨dd, _, hdd9, trivial, fun od => ?_⟩
        refine ⟨_, rfl, dd, od, rfl, .inl ⟨_, upd_same, fun D3 hD3 => ?_⟩⟩
        have nDd : D3 ≠ dd := fun e => by rw [e, upd_same] at hD3; cases hD3
        have hD3' : H9 D3 = none := by rwa [upd_ne nDd] at hD3
        have lr40 : (ringL l x0).length ≤ 41 := by omega
        refine lc_it (walk_keys (d := dd) (o := od) (kvs := l.map kvP)) (fun i H' => H' dd = some (.frz od (.dK (l.map kvP))) ∧ (∀ b o, b ≠ dd → H9 b = some o → H' b = some o) ∧ H' D3 = some (.lst ((((l.map (·.1)).take i).filter fun o => decide (((lk l o).getD 0) ∈ ringL l x0)).map V.int)))
          ⟨(upd_ne nDd.symm).trans upd_same, fun b o n e => by rw [upd_ne (ne_of_none e hD3'), upd_ne n]; exact e, upd_same⟩ (fun i H' _ w => w.1) ?_ ?_
        · rintro i x H10 H11 hi ⟨hf, hk10, hD10⟩ ⟨rfl, k, v, hkv, rfl⟩
          rw [List.length_map] at hi
          have hli : l[i]? = some l[i] := List.getElem?_eq_getElem hi
          rw [List.getElem?_map, hli] at hkv
          obtain ⟨rfl, rfl⟩ : Sum.inl l[i].1 = k ∧ V.int l[i].2 = v := by
            have := Option.some.inj hkv
            exact ⟨congrArg Prod.fst this, congrArg Prod.snd this⟩
          have hpm : l[i] ∈ l := List.getElem_mem hi
          generalize l[i] = pr at hli hpm
          have hl1 : (l.map (·.1))[i]? = some pr.1 := by rw [List.getElem?_map, hli]; rfl
          have ft2 := filter_take' (f := fun o : Int => decide (((lk l o).getD 0) ∈ ringL l x0)) hl1
          have lp := lk_of ndl hpm
          have vv : valV (l.map kvP) (Sum.inl pr.1) = some (V.int pr.2) := by rw [tb_of l pr.1, lp]; rfl
          have hR10 := hk10 _ _ nRd hR9
          refine ⟨rfl, ?_⟩
          refine ⟨_, rfl, _, rfl, dd, _, rfl, .inl ⟨_, Sum.inl pr.1, .inr ⟨od, hf⟩, rfl, vv.symm⟩, _, rfl, Rg, _, rfl, .inl (SqL.of hR10), rfl, flat_ints _, _, rfl, ?_⟩
          show if inV (.int pr.2) ((ringL l x0).map V.int) = true then _ else _
          rw [inV_ints]
          refine ifB (fun hb1 => ?_) (fun hb1 => ?_)
          · refine ⟨_, rfl, _, hD10, ?_, ?_, ?_, ?_⟩
            · rw [List.length_map]
              have := List.length_filter_le (fun o : Int => decide (((lk l o).getD 0) ∈ ringL l x0)) ((l.map (·.1)).take i)
              rw [List.length_take, List.length_map] at this
              exact small1000'' (by omega)
            · rw [upd_ne nDd.symm]
              exact hf
            · intro b o n e
              rw [upd_ne (ne_of_none e hD3')]
              exact hk10 b o n e
            · rw [upd_same, ft2, if_pos (by rw [lp]; exact hb1), List.map_append]
              rfl
          · refine ⟨hf, hk10, ?_⟩
            rw [ft2, if_neg (by rw [lp]; show ¬ decide (pr.2 ∈ ringL l x0) = true; rw [hb1]; decide), List.append_nil]
            exact hD10
        rintro H10 ⟨hf, hk10, hD10⟩
        rw [List.length_map, ← List.length_map (f := fun x : Pr => x.1) (as := l), List.take_length] at hD10
        refine ⟨hf, ?_⟩
        have kX : Keep [Rg] H7 (upd H10 dd (.dK (l.map kvP))) := fun b o nb e => by
          by_cases hb : b = dd
          · rw [hb, upd_same]
            rw [hb] at nb e
            exact (k9 _ _ nb e ▸ hdd9).symm
          · rw [upd_ne hb]
            exact hk10 b o hb (k9 b o nb e)
        have hRX : (upd H10 dd (.dK (l.map kvP))) Rg = some (.lst ((ringL l x0).map V.int)) := by
          rw [upd_ne nRd]
          exact hk10 _ _ nRd hR9
        have hDX : (upd H10 dd (.dK (l.map kvP))) D3 = some (.lst (((l.map (·.1)).filter fun o => decide (((lk l o).getD 0) ∈ ringL l x0)).map V.int)) := by
          rw [upd_ne nDd]
          exact hD10
        have hddX : (upd H10 dd (.dK (l.map kvP))) dd = some (.dK (l.map kvP)) := upd_same
        generalize upd H10 dd (.dK (l.map kvP)) = HX at kX hRX hDX hddX ⊢
        clear hf hk10 hD10
        have dgx := dg hddX
        rw [hl] at dgx
        refine ⟨_, rfl, dd, rfl, .inl ⟨_, .inl hddX⟩, _, rfl, _, rfl, Rg, _, rfl, .inl (SqL.of hRX), _, _, rfl, rfl, Rg, _, _, V.int z, rfl, rfl, SqL.of hRX, ix _ rfl, _, dgx, _, rfl, rfl, _, rfl, ?_⟩
        first
        | (have nc : ¬ Cyc l x0 := fun c => by
             have := dn.cyc.mp c
             rw [wR] at this
             cases this
           exact iteF (stay (noH (.inr (.inl nc))) _ _ _ HX kX))
        | skip
      refine ifEqI (fun eq => ?_) (fun ne => ?_)
      · rw [eq] at wR
        have c : Cyc l x0 := dn.cyc.mpr wR
        have mx : x0 ∈ ringL l x0 := (dn.orb c _).mp (Orb.refl _ _)
        refine ⟨_, rfl, Rg, _, rfl, SqL.of hRX, dn.pos, fun m hm le => ?_⟩
        refine ⟨_, rfl, rfl, _, rfl, ifEqI (fun em => ?_) (fun nem => ?_)⟩
        · refine ⟨_, rfl, D3, _, rfl, .inl (SqL.of hDX), _, rfl, Rg, _, rfl, .inl (SqL.of hRX), rfl, _, rfl, ?_⟩
          rw [List.length_map, List.length_map]
          have rd := dn.readers c ndl
          refine ifEqI (fun el => ?_) (fun nel => ?_)
          · have lone := rd.mp (by omega)
            have hh : hedB l x0 = true := hedB_iff.mpr (asked.mpr ⟨c, fun y hy => by rw [← em]; exact le y hy, lone⟩)
            have hFX := kX _ _ (nin1 (Ne.symm nRF)) hF6
            refine ⟨_, rfl, .inl ⟨rfl, _, SqL.of hFX⟩, _, rfl, F, _, _, rfl, rfl, hFX, small1000'' (by rw [List.length_map]; omega), ?_⟩
            refine ⟨⟨_, _, _, rfl⟩, ?_, as6 ++ [Rg], ?_, ?_⟩
            · intro b o nb e
              rw [upd_ne (fun z => nb (by simp [z]))]
              exact clR kX _ _ nb e
            · rw [upd_same, List.map_append]
              rfl
            · rw [ft, if_pos hh, List.map_append]
              refine Paired.snoc ⟨nRH, nRF, (upd_ne nRF).trans hRX⟩ (Paired.keepH (fun a _ na o e => ?_) pa6)
              rw [upd_ne na]
              exact kX _ _ (nin1 (ne_of_none e nR)) e
          · exact stay (noH (.inr (.inr fun h => nel (by have := rd.mpr h; omega)))) _ _ _ HX kX
        · refine stay (noH (.inl ⟨m, hm, ?_⟩)) _ _ _ HX kX
          have := le _ mx
          omega
      · have nc : ¬ Cyc l x0 := fun c => by
          have := dn.cyc.mp c
          rw [wR] at this
          exact ne (Option.some.inj this)
        exact stay (noH (.inr (.inl nc))) _ _ _ HX kX
    · obtain ⟨y, hl, ny⟩ : ∃ y, lk l z = some y ∧ y ∉ R := by
        cases hl : lk l z with
        | none => exact absurd (fun y h => by rw [hl] at h; cases h) stp
        | some y => exact ⟨y, rfl, fun m => stp fun y' h => by rw [hl] at h; rw [← Option.some.inj h]; exact m⟩
      rw [hl] at wR
      have dgy : ∀ {H' : Hp}, H' dd = some (.dK (l.map kvP)) → DGet H' dd (.int z) (some (.int y)) := fun {H'} h => by
        have := dg h
        rw [hl] at this
        exact this
      refine ⟨_, rfl, dd, rfl, .inl ⟨_, .inl hdd9⟩, _, rfl, _, rfl, Rg, _, rfl, .inl (SqL.of hR9), _, _, rfl, rfl, Rg, _, _, V.int z, rfl, rfl, SqL.of hR9, ix _ rfl, _, dgy hdd9, rfl, _, rfl, ?_⟩
      refine iteT ⟨_, rfl, _, rfl, _, rfl, Rg, _, rfl, .inl (SqL.of hR9), _, _, rfl, rfl, Rg, _, _, V.int z, rfl, rfl, SqL.of hR9, ix _ rfl, dd, _, rfl, dgy hdd9, _, rfl, Rg, _, rfl, .inl (SqL.of hR9), rfl, flat_ints _, _, rfl, ?_⟩
      show if (!inV (.int y) (R.map V.int)) = true then _ else _
      rw [inV_ints, decide_eq_false ny]
      refine iteT ⟨fun σ' H' => ∃ (R : List Int) (z : Int) (n' : Nat), σ' = [some (.ref a), some (.ref dd), some (.ref F), some (.int x0), some (.ref Rg), x5, none, none] ∧ Keep [Rg] H7 H' ∧ H' Rg = some (.lst (R.map V.int)) ∧ Tr l x0 R ∧ R[R.length - 1]? = some z ∧ lawGo l n' z R = ringL l x0 ∧ l.length + 2 ≤ R.length + n' ∧ n = n', fun σ' H' w => ⟨n, Nat.lt_succ_self n, w⟩, ?_⟩
      refine ⟨_, rfl, .inl ⟨rfl, _, SqL.of hR9⟩, _, rfl, _, rfl, _, rfl, Rg, _, rfl, .inl (SqL.of hR9), _, _, rfl, rfl, Rg, _, _, V.int z, rfl, rfl, SqL.of hR9, ix _ rfl, dd, _, rfl, dgy hdd9, Rg, _, _, rfl, rfl, hR9, small1000'' (by rw [List.length_map]; omega), ?_⟩
      refine ⟨R ++ [y], y, n, rfl, k9.trans (keep_upd (by simp)), ?_, tr.snoc wR ny, by simp, ?_, by rw [List.length_append, List.length_singleton]; omega, rfl⟩
      · rw [upd_same, List.map_append]
        rfl
      · rw [← eg, go1, hl]
        simp only [if_neg ny]
  · rintro σ H6 ⟨⟨x3, x4, x5, rfl⟩, k6, as6, hF6, pa6⟩
    rw [List.length_map, List.take_length] at pa6
    exact ⟨_, rfl, q F H6 nFH (keepH _ k6) ⟨as6, hF6, pa6⟩⟩
end
end Cb
set_option Elab.async false
set_option linter.all false
set_option maxRecDepth 100000
set_option maxHeartbeats 4000000
namespace Cb
open PySem PySem.Spec PyProof.Rows L2
/-! ### the search in breadth, as a pure thing: four registers, each holding one of four things; a state is a number below 256 -/
def WF : List (Nat × Nat) := [(228, 0), (229, 1), (230, 1), (231, 1), (224, 1), (232, 1), (236, 1), (196, 1), (212, 1), (244, 1), (36, 1), (100, 1), (164, 1), (233, 2), (237, 2), (213, 2), (245, 2), (101, 2), (165, 2), (234, 2), (238, 2), (214, 2), (246, 2), (166, 2), (102, 2), (239, 2), (235, 2), (247, 2), (215, 2), (103, 2), (167, 2), (226, 2), (227, 2), (192, 2), (240, 2), (32, 2), (160, 2), (200, 2), (248, 2), (40, 2), (168, 2), (204, 2), (252, 2), (44, 2), (172, 2), (197, 2), (199, 2), (4, 2), (68, 2), (208, 2), (220, 2), (20, 2), (84, 2), (52, 2), (116, 2), (37, 2), (38, 2), (96, 2), (104, 2), (132, 2), (148, 2), (217, 3), (249, 3), (105, 3), (169, 3), (221, 3), (253, 3), (109, 3), (173, 3), (85, 3), (117, 3), (149, 3), (250, 3), (170, 3), (254, 3), (174, 3), (218, 3), (222, 3), (150, 3), (86, 3), (182, 3), (118, 3), (106, 3), (255, 3), (175, 3), (251, 3), (171, 3), (119, 3), (223, 3), (87, 3), (111, 3), (107, 3), (183, 3), (151, 3), (194, 3), (242, 3), (162, 3), (34, 3), (243, 3), (195, 3), (35, 3), (163, 3), (0, 3), (48, 3), (128, 3), (202, 3), (203, 3), (8, 3), (136, 3), (56, 3), (184, 3), (42, 3), (207, 3), (12, 3), (60, 3), (47, 3), (46, 3), (140, 3), (188, 3), (193, 3), (205, 3), (69, 3), (5, 3), (71, 3), (7, 3), (64, 3), (209, 3), (211, 3), (16, 3), (80, 3), (28, 3), (92, 3), (21, 3), (53, 3), (55, 3), (112, 3), (124, 3), (41, 3), (33, 3), (22, 3), (6, 3), (98, 3), (97, 3), (72, 3), (88, 3), (133, 3), (134, 3), (144, 3), (152, 3), (219, 4), (89, 4), (153, 4), (121, 4), (185, 4), (93, 4), (125, 4), (110, 4), (157, 4), (189, 4), (186, 4), (190, 4), (154, 4), (90, 4), (158, 4), (94, 4), (181, 4), (122, 4), (126, 4), (191, 4), (187, 4), (127, 4), (95, 4), (123, 4), (91, 4), (159, 4), (155, 4), (206, 4), (130, 4), (2, 4), (178, 4), (50, 4), (51, 4), (3, 4), (43, 4), (179, 4), (131, 4), (138, 4), (10, 4), (139, 4), (11, 4), (58, 4), (59, 4), (176, 4), (15, 4), (63, 4), (62, 4), (14, 4), (143, 4), (142, 4), (241, 4), (65, 4), (1, 4), (77, 4), (13, 4), (79, 4), (67, 4), (23, 4), (81, 4), (17, 4), (19, 4), (83, 4), (31, 4), (29, 4), (76, 4), (61, 4), (49, 4), (115, 4), (113, 4), (25, 4), (9, 4), (161, 4), (26, 4), (18, 4), (70, 4), (66, 4), (82, 4), (74, 4), (73, 4), (24, 4), (129, 4), (137, 4), (145, 4), (146, 4)]
def NF : List Nat := [1, 13, 19, 25, 31, 37, 41, 45, 49, 53, 55, 57, 59, 61, 65, 69, 70, 71, 71, 72, 74, 76, 80, 82, 82, 83, 85, 87, 88, 90, 92, 94, 98, 102, 103, 104, 104, 105, 109, 111, 112, 112, 114, 115, 117, 119, 123, 125, 125, 126, 130, 132, 133, 133, 135, 137, 139, 141, 143, 145, 147, 149, 152, 154, 154, 154, 155, 156, 157, 159, 159, 159, 159, 160, 160, 161, 161, 163, 165, 165, 165, 166, 168, 168, 168, 169, 170, 170, 171, 172, 172, 172, 174, 174, 176, 179, 181, 181, 181, 182, 183, 184, 186, 186, 186, 186, 188, 190, 190, 190, 192, 193, 193, 194, 194, 195, 195, 197, 199, 199, 202, 204, 204, 204, 206, 207, 207, 209, 211, 211, 211, 213, 214, 214, 216, 216, 218, 218, 220, 221, 223, 224, 226, 226, 228, 229, 231, 231, 233, 233, 233, 233, 233, 233, 233, 233, 233, 233, 233, 233, 233, 233, 233, 233, 233, 233, 233, 233, 233, 233, 233, 233, 233, 233, 233, 233, 233, 233, 233, 233, 233, 233, 233, 233, 233, 233, 233, 233, 233, 233, 233, 233, 233, 233, 233, 233, 233, 233, 233, 233, 233, 233, 233, 233, 233, 233, 233, 233, 233, 233, 233, 233, 233, 233, 233, 233, 233, 233, 233, 233, 233, 233, 233, 233, 233, 233, 233, 233, 233, 233, 233, 233, 233, 233]
def rgI (d : Nat) : Int := match d with
  | 0 => 0
  | 1 => 1
  | 2 => 2
  | _ => 9
def decS (c : Nat) : List Int := [rgI (c % 4), rgI (c / 4 % 4), rgI (c / 16 % 4), rgI (c / 64 % 4)]
def idS (x : Int) : Nat := if x = 0 then 0 else if x = 1 then 1 else if x = 2 then 2 else 3
def encS : List Int → Nat
  | [a, b, c, d] => idS a + 4 * idS b + 16 * idS c + 64 * idS d
  | _ => 0
def digS (c i : Nat) : Nat := c / 4 ^ i % 4
def mvS (c i j : Nat) : Nat := c - digS c i * 4 ^ i + digS c j * 4 ^ i
theorem enc_dec : ∀ c, c < 256 → encS (decS c) = c := by decide +kernel
theorem dec_inj {c e : Nat} (hc : c < 256) (he : e < 256) (h : decS c = decS e) : c = e := by rw [← enc_dec c hc, h, enc_dec e he]
theorem mv_all : ((List.range 256).all fun c => (List.range 16).all fun t => decide (mvS c (t / 4) (t % 4) < 256) && decide (decS (mvS c (t / 4) (t % 4)) = (decS c).take (t / 4) ++ [(decS c).getD (t % 4) 0] ++ (decS c).drop (t / 4 + 1))) = true := by decide +kernel
theorem mv_dec {c t : Nat} (hc : c < 256) (ht : t < 16) : mvS c (t / 4) (t % 4) < 256 ∧ decS (mvS c (t / 4) (t % 4)) = (decS c).take (t / 4) ++ [(decS c).getD (t % 4) 0] ++ (decS c).drop (t / 4 + 1) := by
  have h := List.all_eq_true.mp (List.all_eq_true.mp mv_all c (List.mem_range.mpr hc)) t (List.mem_range.mpr ht)
  rw [Bool.and_eq_true] at h
  exact ⟨of_decide_eq_true h.1, of_decide_eq_true h.2⟩
def addS (d : Nat) (ws : List (Nat × Nat)) (m : Nat) : List (Nat × Nat) := if ws.any fun p => p.1 == m then ws else ws ++ [(m, d)]
def fillS (c d : Nat) (ws : List (Nat × Nat)) (t : Nat) : List (Nat × Nat) := (List.range t).foldl (fun ws t => addS (d + 1) ws (mvS c (t / 4) (t % 4))) ws
def stepS (ws : List (Nat × Nat)) (k : Nat) : List (Nat × Nat) := match ws[k]? with
  | none => ws
  | some p => fillS p.1 p.2 ws 16
theorem fill_succ (c d : Nat) (ws : List (Nat × Nat)) (t : Nat) : fillS c d ws (t + 1) = addS (d + 1) (fillS c d ws t) (mvS c (t / 4) (t % 4)) := by
  unfold fillS
  rw [List.range_succ, List.foldl_append]
  rfl
theorem bfs_all : ((List.range 233).all fun k => decide (stepS (WF.take (NF.getD k 0)) k = WF.take (NF.getD (k + 1) 0)) && decide (k < NF.getD k 0) && decide (NF.getD k 0 ≤ 233)) = true := by decide +kernel
theorem bfs_at {k : Nat} (h : k < 233) : stepS (WF.take (NF.getD k 0)) k = WF.take (NF.getD (k + 1) 0) ∧ k < NF.getD k 0 ∧ NF.getD k 0 ≤ 233 := by
  have := List.all_eq_true.mp bfs_all k (List.mem_range.mpr h)
  rw [Bool.and_eq_true, Bool.and_eq_true] at this
  exact ⟨of_decide_eq_true this.1.1, of_decide_eq_true this.1.2, of_decide_eq_true this.2⟩
theorem WF_len : WF.length = 233 := by decide +kernel
theorem WF_low : ∀ p ∈ WF, p.1 < 256 := by decide +kernel
theorem WF_nd : (WF.map (·.1)).Nodup := by decide +kernel
/-! ### what is sought -/
def goalC (ps : List Pr) : Nat := (toldF ps 0).toNat + 4 * (toldF ps 1).toNat + 16 * (toldF ps 2).toNat
def hitS (ps : List Pr) (c : Nat) : Bool := c % 64 == goalC ps
def P9 : List Pr := [(0, 0), (0, 1), (0, 2), (1, 0), (1, 1), (1, 2), (2, 0), (2, 1), (2, 2)]
def okS (ps : List Pr) : Bool := !decide ((ps.map (·.1)).Nodup) || (match WF.find? fun p => hitS ps p.1 with
  | some p => p.2 == (ruleM 9 (ps.filter unl)).length
  | none => false)
theorem ok0 : okS [] = true := by decide +kernel
theorem ok1 : (P9.all fun p => okS [p]) = true := by decide +kernel
theorem ok2 : (P9.all fun p => P9.all fun q => okS [p, q]) = true := by decide +kernel
theorem ok3 : (P9.all fun p => P9.all fun q => P9.all fun r => okS [p, q, r]) = true := by decide +kernel
theorem mem_P9 {p : Pr} (h : LowM 3 p) : p ∈ P9 := by
  obtain ⟨a, b⟩ := p
  unfold LowM at h
  have ha : a = 0 ∨ a = 1 ∨ a = 2 := by
    have := h.1
    simp only at this
    omega
  have hb : b = 0 ∨ b = 1 ∨ b = 2 := by
    have := h.2
    simp only at this
    omega
  rcases ha with rfl | rfl | rfl <;> rcases hb with rfl | rfl | rfl <;> decide
theorem ok_all {ps : List Pr} (low : ∀ p ∈ ps, LowM 3 p) (few : ps.length ≤ 3) : okS ps = true := by
  match ps, low, few with
  | [], _, _ => exact ok0
  | [p], low, _ => exact List.all_eq_true.mp ok1 p (mem_P9 (low p (by simp)))
  | [p, q], low, _ => exact List.all_eq_true.mp (List.all_eq_true.mp ok2 p (mem_P9 (low p (by simp)))) q (mem_P9 (low q (by simp)))
  | [p, q, r], low, _ => exact List.all_eq_true.mp (List.all_eq_true.mp (List.all_eq_true.mp ok3 p (mem_P9 (low p (by simp)))) q (mem_P9 (low q (by simp)))) r (mem_P9 (low r (by simp)))
theorem sought {ps : List Pr} (low : ∀ p ∈ ps, LowM 3 p) (few : ps.length ≤ 3) (nd : (ps.map (·.1)).Nodup) : ∃ (k c d : Nat), k < 233 ∧ WF[k]? = some (c, d) ∧ hitS ps c = true ∧ d = (ruleM 9 (ps.filter unl)).length ∧ ∀ (j : Nat) (p : Nat × Nat), j < k → WF[j]? = some p → hitS ps p.1 = false := by
  have h := ok_all low few
  unfold okS at h
  rw [decide_eq_true nd] at h
  cases hf : WF.find? (fun p => hitS ps p.1) with
  | none => rw [hf] at h; cases h
  | some p =>
    rw [hf] at h
    have hd : p.2 = (ruleM 9 (ps.filter unl)).length := by simpa using h
    obtain ⟨h1, k, hk, e, old⟩ := List.find?_eq_some_iff_getElem.mp hf
    refine ⟨k, p.1, p.2, by rw [← WF_len]; exact hk, by rw [List.getElem?_eq_getElem hk, e], h1, hd, fun j q hj hq => ?_⟩
    have hjl := (List.getElem?_eq_some_iff.mp hq).1
    have := old j hj
    rw [(List.getElem?_eq_some_iff.mp hq).2] at this
    simpa using this
end Cb
set_option Elab.async false
set_option linter.all false
set_option maxRecDepth 100000
set_option maxHeartbeats 4000000
namespace Cb
open PySem PySem.Spec PyProof.Rows L2
def kkS (c : Nat) : List Key := (decS c).map Sum.inl
theorem kkS_kv (c : Nat) : (kkS c).map kV = (decS c).map V.int := by
  unfold kkS
  rw [List.map_map]
  rfl
def kvS (ws : List (Nat × Nat)) : List (List Key × V) := ws.map fun p => (kkS p.1, V.int (p.2 : Nat))
structure OkS (ws : List (Nat × Nat)) : Prop where
  low : ∀ p ∈ ws, p.1 < 256
  nd : (ws.map (·.1)).Nodup
theorem kkS_inj {c e : Nat} (hc : c < 256) (he : e < 256) (h : kkS c = kkS e) : c = e := by
  refine dec_inj hc he ?_
  unfold kkS at h
  have : ∀ {xs ys : List Int}, xs.map (Sum.inl (β := Str)) = ys.map Sum.inl → xs = ys := by
    intro xs
    induction xs with
    | nil => intro ys h; cases ys <;> simp_all
    | cons x xs ih =>
      intro ys h
      cases ys with
      | nil => simp at h
      | cons y ys =>
        rw [List.map_cons, List.map_cons, List.cons.injEq] at h
        rw [Sum.inl.inj h.1, ih h.2]
  exact this h
theorem valS {ws : List (Nat × Nat)} (O : OkS ws) {c : Nat} (hc : c < 256) : valV (kvS ws) (kkS c) = (ws.find? fun p => p.1 == c).map fun p => V.int (p.2 : Nat) := by
  have low := O.low
  clear O
  induction ws with
  | nil => rfl
  | cons p ws ih =>
    have hp := low p (List.mem_cons_self ..)
    have ih := ih fun q hq => low q (List.mem_cons_of_mem _ hq)
    unfold valV kvS at ih ⊢
    rw [List.map_cons]
    by_cases h : p.1 = c
    · rw [List.find?_cons_of_pos (by simp [h]), List.find?_cons_of_pos (by simpa using h)]
      rfl
    · rw [List.find?_cons_of_neg (by simpa using fun e => h (kkS_inj hp hc e)), List.find?_cons_of_neg (by simpa using h)]
      exact ih
theorem valS_any {ws : List (Nat × Nat)} (O : OkS ws) {c : Nat} (hc : c < 256) : (valV (kvS ws) (kkS c)).isSome = ws.any fun p => p.1 == c := by
  rw [valS O hc, Option.isSome_map]
  clear O
  induction ws with
  | nil => rfl
  | cons p ws ih =>
    cases h : p.1 == c with
    | true => simp [List.find?_cons, h]
    | false =>
      simp only [List.find?_cons, h, List.any_cons, Bool.false_or]
      exact ih
theorem valS_at {ws : List (Nat × Nat)} (O : OkS ws) {c d : Nat} (h : (c, d) ∈ ws) : valV (kvS ws) (kkS c) = some (V.int (d : Nat)) := by
  rw [valS O (O.low _ h)]
  have nd := O.nd
  clear O
  induction ws with
  | nil => cases h
  | cons p ws ih =>
    have n2 := List.nodup_cons.mp nd
    rcases List.mem_cons.mp h with e | e
    · rw [← e, List.find?_cons_of_pos (by simp)]
      rfl
    · have : p.1 ≠ c := fun z => n2.1 (List.mem_map.mpr ⟨_, e, z.symm⟩)
      rw [List.find?_cons_of_neg (by simpa using this)]
      exact ih e n2.2
theorem OkS.add {ws : List (Nat × Nat)} (O : OkS ws) {d m : Nat} (hm : m < 256) : OkS (addS d ws m) := by
  unfold addS
  by_cases h : (ws.any fun p => p.1 == m) = true
  · rw [if_pos h]
    exact O
  · rw [if_neg h]
    refine ⟨fun p hp => ?_, ?_⟩
    · rcases List.mem_append.mp hp with e | e
      · exact O.low p e
      · rw [List.mem_singleton.mp e]
        exact hm
    · rw [List.map_append, List.nodup_append]
      refine ⟨O.nd, by simp, ?_⟩
      rintro a ha b hb rfl
      have hb : a = m := by simpa using hb
      obtain ⟨p, hp, rfl⟩ := List.mem_map.mp ha
      exact h (List.any_eq_true.mpr ⟨p, hp, by simpa using hb⟩)
theorem add_mem {ws : List (Nat × Nat)} {d m : Nat} {p : Nat × Nat} (h : p ∈ ws) : p ∈ addS d ws m := by
  unfold addS
  by_cases h2 : (ws.any fun p => p.1 == m) = true
  · rw [if_pos h2]
    exact h
  · rw [if_neg h2]
    exact List.mem_append_left _ h
theorem fill_ok {ws : List (Nat × Nat)} {c d : Nat} (O : OkS ws) (h : (c, d) ∈ ws) : ∀ t, t ≤ 16 → OkS (fillS c d ws t) ∧ (c, d) ∈ fillS c d ws t ∧ (fillS c d ws t).length ≤ ws.length + t
  | 0, _ => ⟨O, h, Nat.le_refl _⟩
  | t + 1, ht => by
    obtain ⟨a, b, l⟩ := fill_ok O h t (by omega)
    rw [fill_succ]
    refine ⟨a.add (mv_dec (O.low _ h) (by omega)).1, add_mem b, ?_⟩
    unfold addS
    split
    · omega
    · rw [List.length_append, List.length_singleton]
      omega
theorem take_ok (n : Nat) : OkS (WF.take n) := ⟨fun p hp => WF_low p (List.mem_of_mem_take hp), WF_nd.sublist (List.Sublist.map _ (List.take_sublist ..))⟩
/-! ### where it stops -/
theorem hit_all : ((List.range 256).all fun c => (List.range 27).all fun t => decide ((decide ((decS c).getD 0 0 = ((t % 3 : Nat) : Int)) && decide ((decS c).getD 1 0 = ((t / 3 % 3 : Nat) : Int)) && decide ((decS c).getD 2 0 = ((t / 9 % 3 : Nat) : Int))) = (c % 64 == (t % 3) + 4 * (t / 3 % 3) + 16 * (t / 9 % 3)))) = true := by decide +kernel
theorem told_low {ps : List Pr} {x : Int} (low : ∀ p ∈ ps, LowM 3 p) (h0 : 0 ≤ x) (h1 : x < 3) : 0 ≤ toldF ps x ∧ toldF ps x < 3 := by
  unfold toldF
  cases e : ps.find? fun p => decide (p.1 = x) with
  | none => exact ⟨h0, h1⟩
  | some p => exact (low p (List.mem_of_find?_eq_some e)).2
def goalL (ps : List Pr) : List Int := [toldF ps 0, toldF ps 1, toldF ps 2, toldF ps 9]
def badS (ps : List Pr) (c : Nat) (p : Nat) : Bool := !decide (([0, 1, 2, 9] : List Int).getD p 0 = 9) && !decide ((decS c).getD p 0 = (goalL ps).getD p 0)
theorem bad_hit {ps : List Pr} (low : ∀ p ∈ ps, LowM 3 p) {c : Nat} (hc : c < 256) : ((List.range 4).filter (badS ps c)).isEmpty = hitS ps c := by
  have t0 := told_low (x := 0) low (by decide) (by decide)
  have t1 := told_low (x := 1) low (by decide) (by decide)
  have t2 := told_low (x := 2) low (by decide) (by decide)
  have h := List.all_eq_true.mp (List.all_eq_true.mp hit_all c (List.mem_range.mpr hc)) ((toldF ps 0).toNat + 3 * (toldF ps 1).toNat + 9 * (toldF ps 2).toNat) (List.mem_range.mpr (by omega))
  have h := of_decide_eq_true h
  have e0 : ((toldF ps 0).toNat + 3 * (toldF ps 1).toNat + 9 * (toldF ps 2).toNat) % 3 = (toldF ps 0).toNat := by omega
  have e1 : ((toldF ps 0).toNat + 3 * (toldF ps 1).toNat + 9 * (toldF ps 2).toNat) / 3 % 3 = (toldF ps 1).toNat := by omega
  have e2 : ((toldF ps 0).toNat + 3 * (toldF ps 1).toNat + 9 * (toldF ps 2).toNat) / 9 % 3 = (toldF ps 2).toNat := by omega
  rw [e0, e1, e2, Int.toNat_of_nonneg t0.1, Int.toNat_of_nonneg t1.1, Int.toNat_of_nonneg t2.1] at h
  unfold hitS goalC
  rw [← h]
  have r4 : List.range 4 = [0, 1, 2, 3] := rfl
  rw [r4]
  have b3 : badS ps c 3 = false := rfl
  have b0 : badS ps c 0 = !decide ((decS c).getD 0 0 = toldF ps 0) := rfl
  have b1 : badS ps c 1 = !decide ((decS c).getD 1 0 = toldF ps 1) := rfl
  have b2 : badS ps c 2 = !decide ((decS c).getD 2 0 = toldF ps 2) := rfl
  simp only [List.filter_cons, List.filter_nil, b0, b1, b2, b3]
  cases decide ((decS c).getD 0 0 = toldF ps 0) <;> cases decide ((decS c).getD 1 0 = toldF ps 1) <;> cases decide ((decS c).getD 2 0 = toldF ps 2) <;> rfl
/-! ### tuples cut and put together -/
section
variable {K : PySem.W.Frag}
theorem tup_head {H : Hp} {a : Addr} {xs : List V} {i : Nat} {Q : VK} (h : H a = some (.tup xs)) (l : i < xs.length) (q : ∀ p, H p = none → Q (.ref p) (upd H p (.tup (xs.take i)))) : rSlA K (.ref a) none (some (i : Int)) H Q := by
  have e1 : HT.sIx xs.length xs.length (some (i : Int)) = min i xs.length := HT.sIx_nat _ _ i
  have e2 : cutV xs none (some (i : Int)) = xs.take i := by
    unfold cutV
    rw [show HT.sIx xs.length 0 none = 0 from HT.sIx_none _ _, e1, Nat.min_eq_left (by omega)]
    rfl
  refine ⟨a, xs, rfl, SqT.of h, fun z => ?_, fun _ p np => by rw [e2]; exact q p np⟩
  rw [e1, Nat.min_eq_left (by omega)] at z
  omega
theorem tup_tail {H : Hp} {a : Addr} {xs : List V} {i : Nat} {Q : VK} (h : H a = some (.tup xs)) (l : i < xs.length) (q : ∀ p, H p = none → Q (.ref p) (upd H p (.tup (xs.drop (i + 1))))) : rSlA K (.ref a) (some ((i : Int) + 1)) none H Q := by
  have e0 : ((i : Int) + 1) = ((i + 1 : Nat) : Int) := by omega
  have e1 : HT.sIx xs.length 0 (some ((i + 1 : Nat) : Int)) = min (i + 1) xs.length := HT.sIx_nat _ _ (i + 1)
  have e2 : cutV xs (some ((i + 1 : Nat) : Int)) none = xs.drop (i + 1) := by
    unfold cutV
    rw [e1, show HT.sIx xs.length xs.length none = xs.length from HT.sIx_none _ _, Nat.min_eq_left (by omega)]
    exact List.take_of_length_le (by rw [List.length_drop]; exact Nat.le_refl _)
  rw [e0]
  refine ⟨a, xs, rfl, SqT.of h, fun z => ?_, fun _ p np => by rw [e2]; exact q p np⟩
  rw [e1] at z
  omega
theorem tup_cat {H : Hp} {a b : Addr} {xs ys : List V} {Q : VK} (ha : H a = some (.tup xs)) (hb : H b = some (.tup ys)) (l : xs.length + ys.length ≤ 1000) (q : ∀ p H', Same H H' → H' p = some (.tup (xs ++ ys)) → Q (.ref p) H') : rCatA K (.ref a) (.ref b) H Q := by
  refine ⟨a, b, xs, ys, rfl, rfl, SqT.of ha, SqT.of hb, Nat.le_of_lt (small1000'' (by omega)), fun e => ?_, fun _ e => ?_, fun _ _ p np => q p _ (same_new np) upd_same⟩
  · subst e
    exact q b H (Same.refl _) hb
  · subst e
    exact q a H (Same.refl _) (by rw [List.append_nil]; exact ha)
end
end Cb
set_option Elab.async false
set_option linter.all false
set_option maxRecDepth 100000
set_option maxHeartbeats 4000000
namespace Cb
open PySem PySem.Spec PyProof.Rows L2
abbrev s_l_shortest : Stmt := topS 33
abbrev NSt : List Str := ["_law_shuffle_here", "_law_spare", "_law_registers", "_law_start", "_law_told", "_law_goal", "_law_known", "_law_at", "_law_waiting", "_law_here", "_law_one", "_law_other", "_law_more", "_law_spot", "_law_place"]
theorem sc_l_shortest : FnScope NSt ["_law_shuffle_here", "_law_spare", "_law_registers"] (defScope s_l_shortest) := ⟨rfl, rfl, rfl, by decide +kernel, rfl, by decide +kernel, by decide +kernel⟩
structure TSt (K : PySem.W.Frag) (mg : Str → Option Value) : Prop where
  d_l_shortest : Has K mg "_law_shortest" s_l_shortest ["_law_shuffle_here", "_law_spare", "_law_registers"]
  b_dict : mg "dict" = none
  b_tuple : mg "tuple" = none
  b_range : mg "range" = none
  b_len : mg "len" = none
/-- what waits, and what is known of it -/
def ISt (Kn Wt : Addr) (ws : List (Nat × Nat)) (H : Hp) : Prop := H Kn = some (.dT (kvS ws)) ∧ ∃ as : List Addr, H Wt = some (.lst (as.map V.ref)) ∧ Paired (fun (a : Addr) (p : Nat × Nat) => H a = some (.tup ((decS p.1).map V.int))) as ws
theorem ISt.keep {Kn Wt : Addr} {ws : List (Nat × Nat)} {H H' : Hp} (s : Same H H') (I : ISt Kn Wt ws H) : ISt Kn Wt ws H' := by
  obtain ⟨a, as, b, c⟩ := I
  refine ⟨s _ _ a, as, s _ _ b, ?_⟩
  clear a b
  induction c with
  | nil => exact .nil
  | cons h _ ih => exact .cons (s _ _ h) ih
theorem paired_atR {α β : Type} {F : α → β → Prop} : ∀ {xs : List α} {ys : List β}, Paired F xs ys → ∀ {i : Nat} {y : β}, ys[i]? = some y → ∃ x, xs[i]? = some x ∧ F x y
  | _, _, .nil, i, y, h => by simp at h
  | _, _, .cons r t, 0, y, h => by
    have e := Option.some.inj h
    subst e
    exact ⟨_, rfl, r⟩
  | _, _, .cons r t, i + 1, y, h => paired_atR t h
theorem tup_tailN {K : PySem.W.Frag} {σ : L2.St} {H : Hp} {a : Addr} {xs : List V} {i : Nat} {Q : VK} (h : H a = some (.tup xs)) (l : i < xs.length) (q : ∀ p, H p = none → Q (.ref p) (upd H p (.tup (xs.drop (i + 1))))) : tNoPart σ H fun u H3 => rSlA K (.ref a) (some ((i : Int) + 1)) u H3 Q := tup_tail h l q
theorem range_filter (f : Nat → Bool) (j : Nat) : (List.range (j + 1)).filter f = (List.range j).filter f ++ (if f j = true then [j] else []) := by
  rw [List.range_succ, List.filter_append]
  congr 1
  cases e : f j <;> simp [e]
theorem paired_mono {α β : Type} {F G : α → β → Prop} (h : ∀ a b, F a b → G a b) : ∀ {xs : List α} {ys : List β}, Paired F xs ys → Paired G xs ys
  | _, _, .nil => .nil
  | _, _, .cons r t => .cons (h _ _ r) (paired_mono h t)
theorem at4 {xs : List Int} {j : Nat} (l : xs.length = 4) (h : j < 4) : atI (xs.map V.int) (j : Int) = some (V.int (xs.getD j 0)) := by
  refine atI_nat ?_
  rw [List.getElem?_map, List.getElem?_eq_getElem (by omega), List.getD_eq_getElem?_getD, List.getElem?_eq_getElem (by omega)]
  rfl
theorem ISt.add {Kn Wt a4 : Addr} {ws : List (Nat × Nat)} {H : Hp} {m d : Nat} {as : List Addr} (nKW : Kn ≠ Wt) (hW : H Wt = some (.lst (as.map V.ref))) (pa : Paired (fun (a : Addr) (p : Nat × Nat) => H a = some (.tup ((decS p.1).map V.int))) as ws) (h4 : H a4 = some (.tup ((decS m).map V.int)))
    (o : HO) (ho : ∀ xs, o ≠ .tup xs) (hK : H Kn = some o) (nw : (ws.any fun p => p.1 == m) = false) (no : valV (kvS ws) (kkS m) = none) :
    ISt Kn Wt (addS d ws m) (upd (upd H Kn (.dT (putK (kvS ws) (kkS m) (V.int (d : Nat))))) Wt (.lst (as.map V.ref ++ [.ref a4]))) := by
  have off : ∀ {a : Addr} {xs : List V}, H a = some (.tup xs) → (upd (upd H Kn (.dT (putK (kvS ws) (kkS m) (V.int (d : Nat))))) Wt (.lst (as.map V.ref ++ [.ref a4]))) a = some (.tup xs) := by
    intro a xs h
    rw [upd_ne (ne_ho h hW (by intro z; cases z)), upd_ne (ne_ho h hK fun z => ho _ z.symm)]
    exact h
  unfold addS
  rw [if_neg (by rw [nw]; decide)]
  refine ⟨?_, as ++ [a4], ?_, Paired.snoc (R := fun (a : Addr) (p : Nat × Nat) => (upd (upd H Kn (.dT (putK (kvS ws) (kkS m) (V.int (d : Nat))))) Wt (.lst (as.map V.ref ++ [.ref a4]))) a = some (.tup ((decS p.1).map V.int))) (x := a4) (y := (m, d)) (off h4) ?_⟩
  · rw [upd_ne nKW, upd_same, L2.putK_new _ no]
    unfold kvS
    rw [List.map_append]
    rfl
  · rw [upd_same, List.map_append]
    rfl
  · exact paired_mono (fun a p h => off h) pa
section
variable {P : Program} {w : World} {K : PySem.W.Frag} {mg : Str → Option Value} {base : Heap}
def sp_shortest : Sp := fun vs H Q _ => ∃ (v : V) (ps : List Pr) (q1 : Addr), vs = [v, .int 9, .ref q1] ∧ DT H v (.list (ps.map pairD)) ∧ H q1 = some (.lst (([0, 1, 2, 9] : List Int).map V.int)) ∧ (∀ p ∈ ps, LowM 3 p) ∧ ps.length ≤ 3 ∧ (ps.map (·.1)).Nodup ∧
  ∀ H', Same H H' → Q (.int (((ruleM 9 (ps.filter unl)).length : Nat) : Int)) H'
theorem c_l_shortest (T : TSt K mg) : Says P w K mg base 1 "_law_shortest" ["_law_shuffle_here", "_law_spare", "_law_registers"] sp_shortest := by
  refine says T.d_l_shortest sc_l_shortest (fun vs H Q E h => ?_) (fun f cdv A outer st H vs Q E hr h => ?_)
  · obtain ⟨_, _, _, rfl, _⟩ := h; rfl
  refine ⟨_, (pss_cons (ps_asg (pe_tup (pa_cons (pe_tupleOf (by rfl) T.b_tuple (pv 2)) (pa_cons (pe_callTy (call_dictP rfl) (by rfl) T.b_dict (by decide +kernel) (pa_cons (pv 0) pa_nil)) pa_nil))) (pg_tup rfl (pgs_cons (pg_name (i := 3) sc_l_shortest.nd rfl (.inl rfl)) (pgs_cons (pg_name (i := 4) sc_l_shortest.nd rfl (.inr rfl)) pgs_nil))))
    (pss_cons (ps_asg (pe_tup (pa_cons (pe_lc (own := [("_law_spot", 13)]) (g := gName 13) (tt := tYes) rfl sc_l_shortest.nd (pi_list (pv 2)) (blkOk_by (N := NSt) (sc := defScope s_l_shortest) (own := [("_law_spot", 13)]) (by decide +kernel)) (fun _ _ _ _ _ => pg_name (i := 13) sc_l_shortest.nd rfl (Or.inl rfl)) (fun _ _ _ _ _ => pts_nil) (fun _ _ _ _ _ => (pe_dget2 (hu_of hr) (pv 4) (pv 13) (pv 13) ⟨rfl, rfl, rfl, rfl⟩))) (pa_cons pe_dnewT (pa_cons pe_int pa_nil)))) (pg_tup rfl (pgs_cons (pg_name (i := 5) sc_l_shortest.nd rfl (.inr rfl)) (pgs_cons (pg_name (i := 6) sc_l_shortest.nd rfl (.inl rfl)) (pgs_cons (pg_name (i := 7) sc_l_shortest.nd rfl (.inl rfl)) pgs_nil)))))
    (pss_cons (ps_asg (pe_tup (pa_cons pe_int (pa_cons (pe_lst (pa_cons (pv 3) pa_nil)) pa_nil))) (pg_tup rfl (pgs_cons (pg_sub (pv 6) (pv 3) (set_dict (hu_of hr))) (pgs_cons (pg_name (i := 8) sc_l_shortest.nd rfl (.inl rfl)) pgs_nil))))
    (pss_cons (ps_while PassesOwn.never (pt_cmpR op_lt (pv 7) (pe_callB call_len_seq (by rfl) T.b_len (by decide +kernel) (pa_cons (pv 8) pa_nil)) (nomark _))
        (pss_cons (ps_set (i := 9) sc_l_shortest.nd rfl (.inr rfl) (pe_ix ix_list (pv 8) (pv 7) (fun _ _ => rfl)))
        (pss_cons (ps_if (pt_cmpR (op_eqD hr.units) (pe_lc (own := [("_law_place", 14)]) (g := gName 14) rfl sc_l_shortest.nd (pi_range1 (by rfl) T.b_range (pa_cons (pe_callB call_len_seq (by rfl) T.b_len (by decide +kernel) (pa_cons (pv 2) pa_nil)) pa_nil)) (blkOk_by (N := NSt) (sc := defScope s_l_shortest) (own := [("_law_place", 14)]) (by decide +kernel)) (fun _ _ _ _ _ => pg_name (i := 14) sc_l_shortest.nd rfl (Or.inl rfl)) (fun _ _ _ _ _ => pts_one (PW.pt (pw_and (pt_cmpR op_ne (pe_ix (r := rIxL K) ix_list (pv 2) (pv 14) (fun _ _ => rfl)) (pv 1) (nomark _)) (pw_and1 (pt_cmpR op_ne (pe_ix (r := rIxT K) ix_tup (pv 9) (pv 14) (fun _ _ => rfl)) (pe_ix (r := rIxL K) ix_list (pv 5) (pv 14) (fun _ _ => rfl)) (nomark _)))))) (fun _ _ _ _ _ => (pv 14))) (pe_lst pa_nil) (nomark _))
            (pss_one (ps_ret (pe_dget (hu_of hr) (pv 6) (pv 9) (fun _ _ => rfl))))
            pss_nil)
        (pss_cons (ps_for PassesOwn.never rfl (pi_range1 (by rfl) T.b_range (pa_cons (pe_callB call_len_seq (by rfl) T.b_len (by decide +kernel) (pa_cons (pv 2) pa_nil)) pa_nil)) (pg_name (i := 10) sc_l_shortest.nd rfl (.inl rfl))
            (pss_one (ps_for PassesOwn.never rfl (pi_range1 (by rfl) T.b_range (pa_cons (pe_callB call_len_seq (by rfl) T.b_len (by decide +kernel) (pa_cons (pv 2) pa_nil)) pa_nil)) (pg_name (i := 11) sc_l_shortest.nd rfl (.inl rfl))
                (pss_cons (ps_set (i := 12) sc_l_shortest.nd rfl (.inl rfl) (pe_op op_catA (pe_op op_catA (pe_slice sl_tupA (pv 9) po_none (po_some (pv 10))) (pe_tup (pa_cons (pe_ix ix_tup (pv 9) (pv 11) (fun _ _ => rfl)) pa_nil))) (pe_slice sl_tupA (pv 9) (po_some (pe_op op_add (pv 10) pe_int)) po_none)))
                (pss_one (ps_if (pt_cmp (pc_dnotin (hu_of hr) (pv 12) (pv 6)) (by rfl))
                    (pss_cons (ps_dput (hu_of hr) (pv 6) (pv 12) (pe_op op_add (pe_dget (hu_of hr) (pv 6) (pv 9) (fun _ _ => rfl)) pe_int) rfl)
                    (pss_one (ps_expr (pe_bm PySem.F.plainAttrs_list PySem.F.slot_list_append PySem.F.type_list_append mt_append (pv 8) (pa_cons (pv 12) pa_nil)))))
                    pss_nil))))))
        (pss_one (ps_set (i := 7) sc_l_shortest.nd rfl (.inl rfl) (pe_op op_add (pv 7) pe_int)))))))
    (pss_one (ps_ret pe_non)))))), ?_⟩
  obtain ⟨v, ps, q1, rfl, hd, hq, low, few, nd, q⟩ := h
  obtain ⟨k0, c0, d0, k233, hk0, hit0, hd0, old0⟩ := sought low few nd
  obtain ⟨u, xs, rfl, eu, ru⟩ := hd.refl'
  have lu := ru.length
  refine ⟨_, rfl, .inl ⟨q1, _, rfl, SqL.of hq, fun S nS => ?_⟩⟩
  have sS := same_new (o := .tup (([0, 1, 2, 9] : List Int).map V.int)) nS
  have hS : (upd H S (.tup (([0, 1, 2, 9] : List Int).map V.int))) S = some (.tup (([0, 1, 2, 9] : List Int).map V.int)) := upd_same
  have eu1 := sS _ _ eu
  have ru1 := ru.same sS _
  have hq1 := sS _ _ hq
  generalize upd H S (.tup (([0, 1, 2, 9] : List Int).map V.int)) = H1 at sS hS eu1 ru1 hq1 ⊢
  obtain ⟨as, eas, la, pp⟩ := pairs_addr (K := K) ru1
  refine ⟨_, rfl, u, as, _, rfl, by rw [← eas]; exact SqL.of eu1, pp, fun dd ndd => ⟨(show 2 ≤ sizeLine by decide), fun t nt => ⟨t, _, rfl, SqT.of upd_same, rfl, _, _, rfl, _, _, rfl, rfl, ?_⟩⟩⟩
  rw [dict_of nd] at nt ⊢
  have s2 := (same_new (o := .dK (ps.map kvP)) ndd).trans (same_new (o := .tup [.ref S, .ref dd]) nt)
  have hdd2 := (same_new (o := .tup [.ref S, .ref dd]) nt) _ _ (show (upd H1 dd (.dK (ps.map kvP))) dd = _ from upd_same)
  generalize upd (upd H1 dd (.dK (ps.map kvP))) t (.tup [.ref S, .ref dd]) = H2 at s2 hdd2 ⊢
  have hS2 := s2 _ _ hS
  have hq2 := s2 _ _ hq1
  have s02 := sS.trans s2
  clear nt ndd pp eas la s2 hS hq1 ru1 eu1 sS nS
  refine ⟨_, rfl, q1, rfl, ⟨_, SqL.of hq2⟩, fun G nG => lc_mapW (walk_list (K := K) (a := q1) (xs := ([0, 1, 2, 9] : List Int).map V.int)) (ys := ([0, 1, 2, 9] : List Int).map fun r => V.int (toldF ps r)) (fun H' s' => SqL.of (s' _ _ hq2)) (fun j H x H' y => y.1) nG rfl (by decide) ?_ ?_⟩
  · rintro j x y H' Q' s1 ⟨_, hx⟩ hy q'
    rw [List.getElem?_map] at hx hy
    cases hr : ([0, 1, 2, 9] : List Int)[j]? with
    | none => rw [hr] at hx; cases hx
    | some r =>
      rw [hr] at hx hy
      obtain rfl : V.int r = x := Option.some.inj hx
      obtain rfl : V.int (toldF ps r) = y := Option.some.inj hy
      refine ⟨_, rfl, dd, rfl, .inl ⟨_, .inl (s1 _ _ hdd2)⟩, _, rfl, _, rfl, _, DGet.k (k := Sum.inl r) (s1 _ _ hdd2), ?_⟩
      rw [told_val]
      exact q' _ (Same.refl _)
  intro H3 s3 hG
  have hG : H3 G = some (.lst ((goalL ps).map V.int)) := hG
  refine fun Kn nK => ⟨(show 3 ≤ sizeLine by decide), fun t nt => ⟨t, _, rfl, SqT.of upd_same, rfl, _, _, rfl, _, _, rfl, _, _, rfl, rfl, ?_⟩⟩
  have nKH : H Kn = none := (s02.trans s3).free nK
  have s4 := (same_new (o := .dT []) nK).trans (same_new (o := .tup [.ref G, .ref Kn, .int 0]) nt)
  have hK4 := (same_new (o := .tup [.ref G, .ref Kn, .int 0]) nt) _ _ (show (upd H3 Kn (.dT [])) Kn = _ from upd_same)
  generalize upd (upd H3 Kn (.dT [])) t (.tup [.ref G, .ref Kn, .int 0]) = H4 at s4 hK4 ⊢
  have s24 := s3.trans s4
  have hG4 := s4 _ _ hG
  have hS4 := s24 _ _ hS2
  have hq4 := s24 _ _ hq2
  have s04 := s02.trans s24
  clear nt nK s4 s3 hG hdd2 hS2 hq2 s02 nG s24
  refine ⟨_, rfl, (show 1 ≤ sizeLine by decide), fun Wt nW => ⟨(show 2 ≤ sizeLine by decide), fun t nt => ?_⟩⟩
  have nWH : H Wt = none := s04.free nW
  have nGW : G ≠ Wt := ne_of_none hG4 nW
  have nqW : q1 ≠ Wt := ne_of_none hq4 nW
  have s5 := (same_new (o := .lst [.ref S]) nW).trans (same_new (o := .tup [.int 0, .ref Wt]) nt)
  have hW5 := (same_new (o := .tup [.int 0, .ref Wt]) nt) _ _ (show (upd H4 Wt (.lst [.ref S])) Wt = _ from upd_same)
  have ht5 : (upd (upd H4 Wt (.lst [.ref S])) t (.tup [.int 0, .ref Wt])) t = some (.tup [.int 0, .ref Wt]) := upd_same
  generalize upd (upd H4 Wt (.lst [.ref S])) t (.tup [.int 0, .ref Wt]) = H5 at s5 hW5 ht5 ⊢
  have hK5 := s5 _ _ hK4
  have hS5 := s5 _ _ hS4
  refine ⟨t, _, rfl, SqT.of ht5, rfl, _, _, rfl, _, rfl, _, rfl, Kn, _, rfl, DPut.t (k := kkS 228) hK5 (by rw [kkS_kv]; exact hS5) (show 0 < sizeLine by decide), _, _, rfl, rfl, ?_⟩
  have nKW : Kn ≠ Wt := ne_ho hK5 hW5 (by intro z; cases z)
  have nGK : G ≠ Kn := ne_ho (s5 _ _ hG4) hK5 (by intro z; cases z)
  have nqK : q1 ≠ Kn := ne_ho (s5 _ _ hq4) hK5 (by intro z; cases z)
  have nSK : S ≠ Kn := ne_ho hS5 hK5 (by intro z; cases z)
  have hK6 : (upd H5 Kn (.dT (putK [] (kkS 228) (.int 0)))) Kn = some (.dT (kvS (WF.take (NF.getD 0 0)))) := upd_same
  have hW6 := (upd_ne (H := H5) (o := .dT (putK [] (kkS 228) (.int 0))) nKW.symm).trans hW5
  have hS6 := (upd_ne (H := H5) (o := .dT (putK [] (kkS 228) (.int 0))) nSK).trans hS5
  have hG6 := (upd_ne (H := H5) (o := .dT (putK [] (kkS 228) (.int 0))) nGK).trans (s5 _ _ hG4)
  have hq6 := (upd_ne (H := H5) (o := .dT (putK [] (kkS 228) (.int 0))) nqK).trans (s5 _ _ hq4)
  have s06 : Same H (upd H5 Kn (.dT (putK [] (kkS 228) (.int 0)))) := fun b o e => by
    rw [upd_ne (ne_of_none e nKH)]
    exact s5 _ _ (s04 _ _ e)
  generalize upd H5 Kn (.dT (putK [] (kkS 228) (.int 0))) = H6 at hK6 hW6 hS6 hG6 hq6 s06 ⊢
  clear hK5 hS5 hW5 ht5 s5 nt nW hG4 hS4 hq4 hK4 s04
  have keepH : ∀ {H' : Hp}, Keep [Kn, Wt] H6 H' → Same H H' := fun {H'} k b o e => k b o (by simp [ne_of_none e nKH, ne_of_none e nWH]) (s06 b o e)
  have I0 : ISt Kn Wt (WF.take (NF.getD 0 0)) H6 := ⟨hK6, [S], hW6, .cons hS6 .nil⟩
  refine ⟨fun m σ H' => ∃ (k : Nat) (x9 x10 x11 x12 : Option V), σ = [some (.ref u), some (.int 9), some (.ref q1), some (.ref S), some (.ref dd), some (.ref G), some (.ref Kn), some (.int (k : Nat)), some (.ref Wt), x9, x10, x11, x12, none, none] ∧ Keep [Kn, Wt] H6 H' ∧ ISt Kn Wt (WF.take (NF.getD k 0)) H' ∧ k + m = k0,
    ⟨k0, 0, none, none, none, none, rfl, Keep.refl, I0, Nat.zero_add _⟩, ?_⟩
  rintro m σ H7 ⟨k, x9, x10, x11, x12, rfl, k7, ⟨hK7, as7, hW7, pa7⟩, km⟩
  have k233' : k < 233 := by omega
  obtain ⟨bst, bk, bN⟩ := bfs_at k233'
  obtain ⟨⟨c, d⟩, hcd⟩ : ∃ p, WF[k]? = some p := ⟨_, List.getElem?_eq_getElem (by rw [WF_len]; exact k233')⟩
  have O0 := take_ok (NF.getD k 0)
  have hcd2 : (WF.take (NF.getD k 0))[k]? = some (c, d) := by rw [List.getElem?_take, if_pos bk, hcd]
  have lw0 : (WF.take (NF.getD k 0)).length ≤ 233 := by rw [List.length_take]; omega
  have estep : stepS (WF.take (NF.getD k 0)) k = fillS c d (WF.take (NF.getD k 0)) 16 := by
    unfold stepS
    rw [hcd2]
  rw [estep] at bst
  have mcd := List.mem_of_getElem? hcd2
  obtain ⟨a, ha7, hta⟩ := paired_atR pa7 hcd2
  have hta : H7 a = some (.tup ((decS c).map V.int)) := hta
  have las := Paired.len pa7
  have lk7 := (List.getElem?_eq_some_iff.mp ha7).1
  generalize WF.take (NF.getD k 0) = ws at O0 hcd2 lw0 bst mcd las hK7 pa7
  clear estep
  have c256 := O0.low _ mcd
  refine ⟨_, rfl, _, rfl, Wt, _, rfl, .inl (SqL.of hW7), _, _, rfl, rfl, _, rfl, ?_⟩
  rw [List.length_map, decide_eq_true (show ((k : Nat) : Int) < ((as7.length : Nat) : Int) by omega)]
  have hq7 := k7 _ _ (by simp [nqK, nqW]) hq6
  have hG7 := k7 _ _ (by simp [nGK, nGW]) hG6
  refine iteT ⟨fun σ' H' => k + 1 ≤ k0 ∧ ∃ (x9 x10 x11 x12 : Option V), σ' = [some (.ref u), some (.int 9), some (.ref q1), some (.ref S), some (.ref dd), some (.ref G), some (.ref Kn), some (.int ((k + 1 : Nat) : Int)), some (.ref Wt), x9, x10, x11, x12, none, none] ∧ Keep [Kn, Wt] H6 H' ∧ ISt Kn Wt (WF.take (NF.getD (k + 1) 0)) H',
    fun σ' H' ⟨l1, y9, y10, y11, y12, e, kk, I⟩ => ⟨m - 1, by omega, k + 1, y9, y10, y11, y12, e, kk, I, by omega⟩, ?_⟩
  refine ⟨_, rfl, _, rfl, Wt, _, ((k : Nat) : Int), .ref a, rfl, rfl, SqL.of hW7, atI_nat (by rw [List.getElem?_map, ha7]; rfl), ?_⟩
  refine ⟨_, rfl, q1, _, rfl, .inl (SqL.of hq7), _, rfl, by decide, by decide, fun D hD => ?_⟩
  refine lc_it (walk_range (lo := 0) (n := 4)) (fun j H' => Same H7 H' ∧ H' D = some (.lst ((((List.range j).filter (badS ps c)).map fun i => ((i : Nat) : Int)).map V.int))) ⟨same_new hD, upd_same⟩ (fun i H' _ z => trivial) ?_ ?_
  · rintro j x H8 H9 hj ⟨s8, hD8⟩ ⟨rfl, hx⟩
    obtain rfl : x = V.int ((j : Nat) : Int) := hx.trans (congrArg V.int (Int.zero_add _))
    clear hx
    have fj : (List.range (j + 1)).filter (badS ps c) = (List.range j).filter (badS ps c) ++ (if badS ps c j = true then [j] else []) := range_filter _ j
    have lf := List.length_filter_le (badS ps c) (List.range j)
    rw [List.length_range] at lf
    have stayC : badS ps c j = false → Same H7 H9 ∧ H9 D = some (.lst ((((List.range (j + 1)).filter (badS ps c)).map fun i => ((i : Nat) : Int)).map V.int)) := fun hb => by
      refine ⟨s8, ?_⟩
      rw [fj, if_neg (by rw [hb]; decide), List.append_nil]
      exact hD8
    refine ⟨rfl, ?_⟩
    refine ⟨_, rfl, _, rfl, q1, _, _, _, rfl, rfl, SqL.of (s8 _ _ hq7), at4 rfl hj, _, rfl, rfl, _, rfl, ifNeI (fun n1 => ?_) (fun e1 => ?_)⟩
    · refine ⟨_, rfl, _, rfl, a, _, _, _, rfl, rfl, SqT.of (s8 _ _ hta), at4 rfl hj, _, rfl, _, rfl, G, _, _, _, rfl, rfl, SqL.of (s8 _ _ hG7), at4 rfl hj, rfl, _, rfl, ifNeI (fun n2 => ?_) (fun e2 => ?_)⟩
      · have hb : badS ps c j = true := by
          unfold badS
          rw [decide_eq_false n1, decide_eq_false n2]
          rfl
        refine ⟨_, rfl, _, hD8, small1000'' (by rw [List.length_map, List.length_map]; omega), ?_, ?_⟩
        · intro b o e
          rw [upd_ne (ne_of_none e hD)]
          exact s8 _ _ e
        · rw [upd_same, fj, if_pos hb, List.map_append, List.map_append]
          rfl
      · refine stayC ?_
        unfold badS
        rw [decide_eq_true e2]
        simp
    · refine iteF (stayC ?_)
      unfold badS
      rw [decide_eq_true e1]
      rfl
  rintro H8 ⟨s8, hD8⟩
  refine ⟨Nat.zero_le _, fun e ne => ?_⟩
  have s9 := same_new (o := .lst []) ne
  have hl : (((List.range 4).filter (badS ps c)).map fun i => ((i : Nat) : Int)).length < 1000 := by
    have := List.length_filter_le (badS ps c) (List.range 4)
    rw [List.length_range] at this
    rw [List.length_map]
    omega
  have ok := okd_ints hl
  refine ⟨.list ((((List.range 4).filter (badS ps c)).map fun i => ((i : Nat) : Int)).map PyData.int), .list [], DT.dp (good_plain _ ok.good) (.lst (s9 _ _ hD8) (dts_ints _)), .lst (SqL.of upd_same) .nil, ok.shaped, rfl, _, rfl, ?_⟩
  rw [eqv_nil, map_isEmpty, map_isEmpty, bad_hit low c256]
  have s79 := s8.trans s9
  have hK9 := s79 _ _ hK7
  have hW9 := s79 _ _ hW7
  have hta9 := s79 _ _ hta
  have hq9 := s79 _ _ hq7
  have I9 : ISt Kn Wt ws (upd H8 e (.lst [])) := ISt.keep s79 ⟨hK7, as7, hW7, pa7⟩
  have k9 := k7.trans (same_keep s79)
  generalize upd H8 e (.lst []) = H9 at hK9 hW9 hta9 hq9 I9 k9 ⊢
  clear s8 s9 ok hl ne hD8 hD s79 hG7 hq7 hta hK7 pa7 hW7 k7 lk7 las ha7
  cases hh : hitS ps c with
  | true =>
    have ek : k = k0 := by
      rcases Nat.lt_or_ge k k0 with h | h
      · have := old0 k _ h hcd
        rw [hh] at this
        cases this
      · omega
    subst ek
    obtain ⟨rfl, rfl⟩ : c = c0 ∧ d = d0 := by
      rw [hcd] at hk0
      have := Option.some.inj hk0
      exact ⟨congrArg Prod.fst this, congrArg Prod.snd this⟩
    have g := DGet.t (H := H9) (a := Kn) (b := a) (kvs := kvS ws) (k := kkS c) hK9 (by rw [kkS_kv]; exact hta9)
    rw [valS_at O0 mcd] at g
    refine iteT ⟨_, rfl, _, rfl, Kn, _, rfl, g, ?_⟩
    rw [hd0]
    exact q H9 (keepH k9)
  | false =>
    have lt0 : k + 1 ≤ k0 := by
      have : k ≠ k0 := fun e => by
        subst e
        rw [hk0] at hcd
        have this : c0 = c := congrArg Prod.fst (Option.some.inj hcd)
        rw [← this, hit0] at hh
        cases hh
      omega
    refine iteF ?_
    refine ⟨_, rfl, q1, _, rfl, .inl (SqL.of hq9), _, rfl, by decide, by decide, for_range (n := 4) (fun i σ H' => (∃ x10 x11 x12 : Option V, σ = [some (.ref u), some (.int 9), some (.ref q1), some (.ref S), some (.ref dd), some (.ref G), some (.ref Kn), some (.int (k : Nat)), some (.ref Wt), some (.ref a), x10, x11, x12, none, none]) ∧ Keep [Kn, Wt] H9 H' ∧ ISt Kn Wt (fillS c d ws (4 * i)) H')
      ⟨⟨_, _, _, rfl⟩, Keep.refl, I9⟩ ?_ ?_⟩
    · rintro i σ H10 hi ⟨⟨y10, y11, y12, rfl⟩, k10, I10⟩
      rw [show (0 : Int) + ((i : Nat) : Int) = ((i : Nat) : Int) from Int.zero_add _]
      refine ⟨_, rfl, q1, _, rfl, .inl (SqL.of (k10 _ _ (by simp [nqK, nqW]) hq9)), _, rfl, by decide, by decide, for_range (n := 4) (fun j σ H' => (∃ x11 x12 : Option V, σ = [some (.ref u), some (.int 9), some (.ref q1), some (.ref S), some (.ref dd), some (.ref G), some (.ref Kn), some (.int (k : Nat)), some (.ref Wt), some (.ref a), some (.int (i : Nat)), x11, x12, none, none]) ∧ Keep [Kn, Wt] H9 H' ∧ ISt Kn Wt (fillS c d ws (4 * i + j)) H')
        ⟨⟨_, _, rfl⟩, k10, I10⟩ ?_ ?_⟩
      · rintro j σ H11 hj ⟨⟨z11, z12, rfl⟩, k11, ⟨hK11, as11, hW11, pa11⟩⟩
        rw [show (0 : Int) + ((j : Nat) : Int) = ((j : Nat) : Int) from Int.zero_add _]
        have t16 : 4 * i + j < 16 := by omega
        obtain ⟨OF, mF, lF⟩ := fill_ok O0 mcd (4 * i + j) (by omega)
        obtain ⟨m256, em⟩ := mv_dec c256 t16
        rw [show (4 * i + j) / 4 = i by omega, show (4 * i + j) % 4 = j by omega] at m256 em
        have fs : fillS c d ws (4 * i + (j + 1)) = addS (d + 1) (fillS c d ws (4 * i + j)) (mvS c i j) := by
          have := fill_succ c d ws (4 * i + j)
          rw [show (4 * i + j) / 4 = i by omega, show (4 * i + j) % 4 = j by omega] at this
          exact this
        have l11 := Paired.len pa11
        generalize fillS c d ws (4 * i + j) = wt at OF mF lF fs hK11 pa11 l11
        have naK : a ≠ Kn := ne_ho hta9 hK9 (by intro z; cases z)
        have naW : a ≠ Wt := ne_ho hta9 hW9 (by intro z; cases z)
        have ha11 := k11 _ _ (by simp [naK, naW]) hta9
        have l4 : ((decS c).map V.int).length = 4 := rfl
        refine ⟨_, rfl, _, rfl, ((i : Nat) : Int), rfl, tup_head ha11 (by rw [l4]; omega) fun p1 n1 => ?_⟩
        have sA := same_new (o := .tup (((decS c).map V.int).take i)) n1
        have hp1 : (upd H11 p1 (.tup (((decS c).map V.int).take i))) p1 = some (.tup (((decS c).map V.int).take i)) := upd_same
        generalize upd H11 p1 (.tup (((decS c).map V.int).take i)) = HA at sA hp1 ⊢
        refine ⟨_, rfl, _, rfl, a, _, ((j : Nat) : Int), _, rfl, rfl, SqT.of (sA _ _ ha11), at4 rfl hj, (show 1 ≤ sizeLine by decide), fun tt ntt => ?_⟩
        have sB := sA.trans (same_new (o := .tup [V.int ((decS c).getD j 0)]) ntt)
        have hp1b := (same_new (o := .tup [V.int ((decS c).getD j 0)]) ntt) _ _ hp1
        have htt : (upd HA tt (.tup [V.int ((decS c).getD j 0)])) tt = some (.tup [V.int ((decS c).getD j 0)]) := upd_same
        generalize upd HA tt (.tup [V.int ((decS c).getD j 0)]) = HB at sB hp1b htt ⊢
        refine tup_cat hp1b htt (by rw [List.length_take, l4, List.length_singleton]; omega) fun p2 HC sC hp2 => ?_
        have sBC := sB.trans sC
        refine ⟨_, rfl, _, rfl, _, _, rfl, rfl, _, rfl, tup_tailN (i := i) (sBC _ _ ha11) (by rw [l4]; omega) fun p3 n3 => ?_⟩
        have sD := sBC.trans (same_new (o := .tup (((decS c).map V.int).drop (i + 1))) n3)
        have hp2d := (same_new (o := .tup (((decS c).map V.int).drop (i + 1))) n3) _ _ hp2
        have hp3 : (upd HC p3 (.tup (((decS c).map V.int).drop (i + 1)))) p3 = some (.tup (((decS c).map V.int).drop (i + 1))) := upd_same
        generalize upd HC p3 (.tup (((decS c).map V.int).drop (i + 1))) = HD at sD hp2d hp3 ⊢
        refine tup_cat hp2d hp3 (by rw [List.length_append, List.length_take, List.length_drop, l4, List.length_singleton]; omega) fun p4 HE sE hp4 => ?_
        have sF := sD.trans sE
        have em2 : ((decS c).map V.int).take i ++ [V.int ((decS c).getD j 0)] ++ ((decS c).map V.int).drop (i + 1) = (decS (mvS c i j)).map V.int := by
          rw [em, List.map_append, List.map_append, List.map_take, List.map_drop]
          rfl
        rw [em2] at hp4
        clear em2 em hp3 hp2d sD n3 sBC hp2 sC htt hp1b sB ntt hp1 sA n1 sE
        have hKE := sF _ _ hK11
        have hWE := sF _ _ hW11
        have haE := sF _ _ ha11
        have paE := paired_mono (fun (a : Addr) (p : Nat × Nat) h => sF a _ h) pa11
        have kE := k11.trans (same_keep sF)
        have g4 := DGet.t (H := HE) (a := Kn) (b := p4) (kvs := kvS wt) (k := kkS (mvS c i j)) hKE (by rw [kkS_kv]; exact hp4)
        have iS := valS_any OF m256
        refine ⟨_, rfl, _, rfl, Kn, _, rfl, g4, _, rfl, ?_⟩
        rw [iS]
        cases hany : wt.any fun p => p.1 == mvS c i j with
        | true =>
          refine iteF ⟨⟨_, _, rfl⟩, kE, ?_⟩
          rw [fs]
          unfold addS
          rw [if_pos hany]
          exact ⟨hKE, as11, hWE, paE⟩
        | false =>
          have no : valV (kvS wt) (kkS (mvS c i j)) = none := by
            cases z : valV (kvS wt) (kkS (mvS c i j)) with
            | none => rfl
            | some y =>
              rw [z, hany] at iS
              cases iS
          have gh := DGet.t (H := HE) (a := Kn) (b := a) (kvs := kvS wt) (k := kkS c) hKE (by rw [kkS_kv]; exact haE)
          rw [valS_at OF mF] at gh
          have lkv : (kvS wt).length < sizeLine := small1000'' (by unfold kvS; rw [List.length_map]; omega)
          refine iteT ⟨_, rfl, _, rfl, Kn, _, rfl, gh, _, _, rfl, rfl, _, rfl, _, rfl, Kn, _, rfl, DPut.t (k := kkS (mvS c i j)) hKE (by rw [kkS_kv]; exact hp4) lkv, ?_⟩
          have hWP : (upd HE Kn (.dT (putK (kvS wt) (kkS (mvS c i j)) (.int (((d : Nat) : Int) + 1))))) Wt = some (.lst (as11.map V.ref)) := (upd_ne nKW.symm).trans hWE
          refine ⟨_, rfl, .inl ⟨rfl, _, SqL.of hWP⟩, _, rfl, Wt, _, _, rfl, rfl, hWP, small1000'' (by rw [List.length_map]; omega), ?_⟩
          refine ⟨⟨_, _, rfl⟩, ?_, ?_⟩
          · exact (kE.trans (keep_upd (by simp))).trans (keep_upd (by simp))
          · rw [fs]
            exact ISt.add (d := d + 1) nKW hWE paE hp4 (.dT (kvS wt)) (fun xs z => by cases z) hKE hany no
      · rintro σ H11 ⟨⟨z11, z12, rfl⟩, k11, I11⟩
        exact ⟨⟨_, _, _, rfl⟩, k11, I11⟩
    · rintro σ H10 ⟨⟨y10, y11, y12, rfl⟩, k10, I10⟩
      rw [show 4 * 4 = 16 from rfl, bst] at I10
      exact ⟨_, rfl, _, _, rfl, rfl, lt0, _, _, _, _, rfl, k9.trans k10, I10⟩
end
end Cb
set_option Elab.async false
set_option linter.all false
set_option maxRecDepth 100000
set_option maxHeartbeats 4000000
namespace Cb
open PySem PySem.Spec PyProof.Rows L2
theorem short_100 : ∀ n, n < 200 → (Str.ofString (toString ((n : Nat) : Int))).length ≤ 13 := by decide +kernel
theorem fits_nat {ws : List Nat} {n : Nat} (h : n < 200) : Fits ws (.int (n : Nat)) := by
  have h40 := bulk_40 ws
  have lg : (n : Int).natAbs.log2 < 20 := PySem.Flt.log2_lt_of (by decide) (show (n : Int).natAbs < 2 ^ 20 by omega)
  refine ⟨rfl, by simp [PyData.depth], ?_, ?_, ?_, by simp [PyData.hasDict]⟩
  · simp only [PyData.weight]
    refine Nat.le_trans ?_ h40
    split <;> omega
  · simp only [PyData.intsShort]
    exact decide_eq_true (short_100 n h)
  · simp only [PyData.showable]
    exact decide_eq_true (by omega)
theorem fits_tup {w : Nat} {ws : List Nat} {ds : List PyData} (all : ∀ d ∈ ds, Fits ws d) (h : ds.length ≤ w) (w1 : w < 1000) : Fits (w :: ws) (.tuple ds) := by
  refine ⟨?_, ?_, ?_, ?_, ?_, ?_⟩
  · simp only [Cb.good, goods_of fun d hd => (all d hd).good, Bool.and_true]
    exact decide_eq_true (by omega)
  · have := depthAll_le fun d hd => (all d hd).dep
    simp only [PyData.depth, List.length_cons]
    omega
  · have h3 := weightAll_le fun d hd => (all d hd).wgt
    have h4 : ds.length * (bulk ws + 1) ≤ w * (bulk ws + 1) := Nat.mul_le_mul_right _ h
    simp only [PyData.weight, bulk]
    omega
  · simp only [PyData.intsShort]
    exact shortAll_of fun d hd => (all d hd).short
  · simp only [PyData.showable]
    exact showAll_of fun d hd => (all d hd).shw
  · simp only [PyData.hasDict]
    exact nodAll_of fun d hd => (all d hd).nod
theorem fits_lst {w : Nat} {ws : List Nat} {ds : List PyData} (all : ∀ d ∈ ds, Fits ws d) (h : ds.length ≤ w) (w1 : w < 1000) : Fits (w :: ws) (.list ds) := by
  refine ⟨?_, ?_, ?_, ?_, ?_, ?_⟩
  · simp only [Cb.good, goods_of fun d hd => (all d hd).good, Bool.and_true]
    exact decide_eq_true (by omega)
  · have := depthAll_le fun d hd => (all d hd).dep
    simp only [PyData.depth, List.length_cons]
    omega
  · have h3 := weightAll_le fun d hd => (all d hd).wgt
    have h4 : ds.length * (bulk ws + 1) ≤ w * (bulk ws + 1) := Nat.mul_le_mul_right _ h
    simp only [PyData.weight, bulk]
    omega
  · simp only [PyData.intsShort]
    exact shortAll_of fun d hd => (all d hd).short
  · simp only [PyData.showable]
    exact showAll_of fun d hd => (all d hd).shw
  · simp only [PyData.hasDict]
    exact nodAll_of fun d hd => (all d hd).nod
theorem fits_int {ws : List Nat} {i : Int} (h0 : 0 ≤ i) (h1 : i < 100) : Fits ws (.int i) := by
  obtain ⟨n, rfl⟩ : ∃ n : Nat, i = (n : Int) := ⟨i.toNat, (Int.toNat_of_nonneg h0).symm⟩
  exact fits_nat (by omega)
theorem fits_row {l : List Pr} (h : ∀ p ∈ l, InP p) (few : l.length ≤ 100) : Fits [100, 2] (rowD l) := by
  refine fits_lst (fun d hd => ?_) (by rw [List.length_map]; exact few) (by decide)
  obtain ⟨p, hp, rfl⟩ := List.mem_map.mp hd
  have ip := h p hp
  refine fits_tup (fun d hd => ?_) (Nat.le_refl 2) (by decide)
  rcases List.mem_cons.mp hd with rfl | hd
  · exact fits_int ip.1.1 ip.1.2
  · rw [List.mem_singleton.mp hd]
    exact fits_int ip.2.1 ip.2.2
def ringsD (rs : List (List Int)) : PyData := .list (rs.map fun r => .list (r.map PyData.int))
theorem fits_rings {rs : List (List Int)} (h : ∀ r ∈ rs, r.length ≤ 50 ∧ ∀ x ∈ r, 0 ≤ x ∧ x < 100) (few : rs.length ≤ 50) : Fits [50, 50] (ringsD rs) := by
  refine fits_lst (fun d hd => ?_) (by rw [List.length_map]; exact few) (by decide)
  obtain ⟨r, hr, rfl⟩ := List.mem_map.mp hd
  obtain ⟨l, b⟩ := h r hr
  refine fits_lst (fun d hd => ?_) (by rw [List.length_map]; exact l) (by decide)
  obtain ⟨x, hx, rfl⟩ := List.mem_map.mp hd
  exact fits_int (b x hx).1 (b x hx).2
theorem rings_dt {H0 H' : Hp} {S : List Addr} {p : Addr} {rs : List (List Int)} (r : RLs H0 H' p rs) (hp : p ∉ S) (hS : ∀ b ∈ S, ∃ o, H0 b = some o) : DT (hid S H') (.ref p) (ringsD rs) := by
  obtain ⟨as, h, pa⟩ := r
  refine .lst (hid_at hp h) ?_
  clear h
  induction pa with
  | nil => exact .nil
  | cons a _ ih =>
    refine .cons (.lst (hid_at (fun m => ?_) a.2.2) (dts_ints _)) ih
    obtain ⟨o, e⟩ := hS _ m
    rw [a.1] at e
    cases e
/-! ### what the rule's row speaks of, and what it does -/
theorem run_pred {s : Int} (P : Int → Prop) (hs : P s) : ∀ (n : Nat) (l : List Pr), (∀ q ∈ l, P q.1 ∧ P q.2) → ∀ q ∈ (runM s n l).1, P q.1 ∧ P q.2
  | n, [], _, q, hq => by
    have : runM s n ([] : List Pr) = ([], []) := by cases n <;> rfl
    rw [this] at hq
    cases hq
  | 0, _ :: _, _, q, hq => by cases hq
  | n + 1, p :: l, h, q, hq => by
    have st : (P (stepM s (p :: l)).1.1 ∧ P (stepM s (p :: l)).1.2) ∧ ∀ q ∈ (stepM s (p :: l)).2, P q.1 ∧ P q.2 := by
      cases e : (p :: l).find? (isFree (p :: l)) with
      | some r =>
        rw [step_some e]
        have hr := h r (free_some e).1
        refine ⟨hr, fun x hx => ?_⟩
        obtain ⟨y, hy, e1, e2⟩ := mem_reAt hx
        have hy := h y (mem_off.mp hy).1
        rw [e1, e2]
        refine ⟨hy.1, ?_⟩
        split
        · exact hr.1
        · exact hy.2
      | none =>
        rw [step_none e]
        have hp := h p (List.mem_cons_self ..)
        refine ⟨⟨hs, hp.1⟩, fun x hx => ?_⟩
        obtain ⟨y, hy, e1, e2⟩ := mem_reAt hx
        have hy := h y hy
        rw [e1, e2]
        refine ⟨hy.1, ?_⟩
        split
        · exact hs
        · exact hy.2
    rcases List.mem_cons.mp hq with e | e
    · rw [e]
      exact st.1
    · exact run_pred P hs n _ st.2 q e
theorem rule_does {ps : List Pr} {s r : Int} (S : Shuf ps) (Fr : Free ps s) (h : r ≠ s) : walkF (ruleM s (ps.filter unl)) (fun x => x) r = toldF ps r := by
  have L := lf_of S Fr
  have H : Hd s (toldF ps) (ps.filter unl) (fun x => x) := by
    refine ⟨fun q hq => ?_, fun r hr hn => ?_⟩
    · have hq := (List.mem_filter.mp hq).1
      show q.2 = _
      unfold toldF
      cases e : ps.find? fun p => decide (p.1 = q.1) with
      | none =>
        have := List.find?_eq_none.mp e q hq
        simp at this
      | some p =>
        have h1 := List.mem_of_find?_eq_some e
        have h2 : p.1 = q.1 := by simpa using List.find?_some e
        rw [same_pair S.nd h1 hq h2]
        rfl
    · show r = _
      unfold toldF
      cases e : ps.find? fun p => decide (p.1 = r) with
      | none => rfl
      | some p =>
        have h1 := List.mem_of_find?_eq_some e
        have h2 : p.1 = r := by simpa using List.find?_some e
        show r = p.2
        by_cases h3 : p.1 = p.2
        · rw [← h3, h2]
        · exact absurd (List.mem_map.mpr ⟨p, List.mem_filter.mpr ⟨h1, by simp [unl, h3]⟩, h2⟩) hn
  exact (run_all (left (ps.filter unl)) (ps.filter unl) _ L H (Nat.le_succ _)).2 r h
theorem ringsM_in {l : List Pr} (h : ∀ p ∈ l, InP p) : ∀ r ∈ ringsM l, r.length ≤ l.length + 1 ∧ ∀ x ∈ r, 0 ≤ x ∧ x < 100 := by
  intro r hr
  unfold ringsM at hr
  obtain ⟨x, hx, rfl⟩ := List.mem_map.mp hr
  have d := ringL_done l x
  have c := (hedB_iff.mp (List.mem_filter.mp hx).2).cyc
  refine ⟨Tr.len d.toTr, fun y hy => ?_⟩
  obtain ⟨z, hz, _⟩ := c.next ((d.orb c y).mpr hy)
  exact (h _ (lk_mem hz)).1
end Cb
set_option Elab.async false
set_option linter.all false
set_option maxRecDepth 100000
set_option maxHeartbeats 4000000
namespace Cb
open PySem PySem.Spec PyProof.Rows L2
abbrev s_l_right : Stmt := topS 34
abbrev NRt : List Str := ["_law_shuffle_here", "_law_spare", "_law_given", "_law_due", "_law_told", "_law_registers", "_law_held", "_law_wanted", "_law_ringed", "_law_many", "_law_shown", "_law_ring", "_law_pair", "_law_spot"]
theorem sc_l_right : FnScope NRt ["_law_shuffle_here", "_law_spare"] (defScope s_l_right) := ⟨rfl, rfl, rfl, by decide +kernel, rfl, by decide +kernel, by decide +kernel⟩
structure TRt (K : PySem.W.Frag) (mg : Str → Option Value) : Prop where
  rs : TRs K mg
  lru : TLru K mg
  wk : TWk K mg
  lr : TLr K mg
  d_l_right : Has K mg "_law_right" s_l_right ["_law_shuffle_here", "_law_spare"]
  b_set : mg "set" = none
  b_sum : mg "sum" = none
  b_repr : mg "repr" = none
theorem eqD {d : PyData} {A B : Prop} (h : OKd d) (a : A) : if PyData.eqv d d = true then A else B := by
  rw [eqv_ok h]
  exact iteT a
section
variable {P : Program} {w : World} {K : PySem.W.Frag} {mg : Str → Option Value} {base : Heap}
def sp_right : Sp := fun vs H Q _ => ∃ (v : V) (ps : List Pr) (s : Int), vs = [v, .int s] ∧ DT H v (.list (ps.map pairD)) ∧ Shuf ps ∧ Free ps s ∧ ps.length ≤ 10 ∧ ∀ H', Same H H' → Q (.bl true) H'
theorem c_l_right (T : TRt K mg) : SaysG P w K mg base 9 "_law_right" ["_law_shuffle_here", "_law_spare"] sp_right := by
  refine saysG T.d_l_right sc_l_right (fun vs H Q E h => ?_) (fun f cdv A outer st H vs Q E ga hr h => ?_)
  · obtain ⟨_, _, _, rfl, _⟩ := h; rfl
  refine ⟨_, (pss_cons (ps_par (i := 2) (j := 3) rfl sc_l_right.nd rfl rfl (by decide) rfl rfl (pa_cons (pe_callTy call_list_of (by rfl) T.rs.rg.rf.tv.to.tf.tr.tm.b_list (by decide +kernel) (pa_cons (pv 0) pa_nil)) (pa_cons (pe_s (c_l_rule T.lru) hr (pa_cons (pv 0) (pa_cons (pv 1) pa_nil))) pa_nil)) rfl)
    (pss_cons (ps_set (i := 4) sc_l_right.nd rfl (.inl rfl) (pe_s (c_moves T.rs.rg.rf.tv) hr (pa_cons (pv 2) (pa_cons (pv 1) pa_nil))))
    (pss_cons (ps_if (PW.pt (pw_or (pt_cmpR op_ne (pe_callB (call_repr ga) (by rfl) T.b_repr (by decide +kernel) (pa_cons (pv 4) pa_nil)) (pe_callB (call_repr ga) (by rfl) T.b_repr (by decide +kernel) (pa_cons (pv 3) pa_nil)) (nomark _)) (pw_or (pt_cmpR (op_neD hr.units) (pv 2) (pv 0) (nomark _)) (pw_or1 (pt_cmpR (op_neD hr.units) (pe_k0 (k_moves T.rs.rg.rf.tv) hr (pk_cons (pv 1) (pk_cons (pv 2) pk_nil))) (pv 3) (nomark _))))))
        (pss_one (ps_ret pe_bl))
        pss_nil)
    (pss_cons (ps_set (i := 5) sc_l_right.nd rfl (.inl rfl) (pe_callB (cr_sortedSet rfl) (by rfl) T.lr.b_sorted (by decide +kernel) (pa_cons (pe_callTy (call_setL rfl) (by rfl) T.b_set (by decide +kernel) (pa_cons (pe_callB (call_sumL rfl) (by rfl) T.b_sum (by decide +kernel) (pa_cons (pe_lc (own := [("_law_pair", 12)]) (g := gName 12) (tt := tYes) rfl sc_l_right.nd (pi_list (pv 0)) (blkOk_by (N := NRt) (sc := defScope s_l_right) (own := [("_law_pair", 12)]) (by decide +kernel)) (fun _ _ _ _ _ => pg_name (i := 12) sc_l_right.nd rfl (Or.inl rfl)) (fun _ _ _ _ _ => pts_nil) (fun _ _ _ _ _ => (pe_callTy (T := "list") (r := rLof K) call_lof (by rfl) T.rs.rg.rf.tv.to.tf.tr.tm.b_list (by decide +kernel) (pa_cons (pv 12) pa_nil)))) (pa_cons (pe_lst (pa_cons (pv 1) (pa_cons pe_int pa_nil))) pa_nil))) pa_nil)) pa_nil)))
    (pss_cons (ps_asg (pe_tup (pa_cons (pe_s (c_l_walked T.wk) hr (pa_cons (pv 3) (pa_cons (pv 5) pa_nil))) (pa_cons (pe_callTy (call_dictP rfl) (by rfl) T.wk.b_dict (by decide +kernel) (pa_cons (pv 0) pa_nil)) pa_nil))) (pg_tup rfl (pgs_cons (pg_name (i := 6) sc_l_right.nd rfl (.inr rfl)) (pgs_cons (pg_name (i := 7) sc_l_right.nd rfl (.inr rfl)) pgs_nil))))
    (pss_cons (ps_if (pt_cmpR (op_neD hr.units) (pe_lc (own := [("_law_spot", 13)]) (g := gName 13) rfl sc_l_right.nd (pi_list (pv 5)) (blkOk_by (N := NRt) (sc := defScope s_l_right) (own := [("_law_spot", 13)]) (by decide +kernel)) (fun _ _ _ _ _ => pg_name (i := 13) sc_l_right.nd rfl (Or.inl rfl)) (fun _ _ _ _ _ => pts_one (PW.pt (pw_and (pt_cmpR op_ne (pv 13) (pv 1) (nomark _)) (pw_and1 (pt_cmpR op_ne (pe_dget (hu_of hr) (pv 6) (pv 13) (fun _ _ => rfl)) (pe_dget2 (hu_of hr) (pv 7) (pv 13) (pv 13) ⟨rfl, rfl, rfl, rfl⟩) (nomark _)))))) (fun _ _ _ _ _ => (pv 13))) (pe_lst pa_nil) (nomark _))
        (pss_one (ps_ret pe_bl))
        pss_nil)
    (pss_cons (ps_par (i := 8) (j := 9) rfl sc_l_right.nd rfl rfl (by decide) rfl rfl (pa_cons (pe_s (c_l_rings T.lr) hr (pa_cons (pv 0) pa_nil)) (pa_cons (pe_callB call_len_seq (by rfl) T.lr.b_len (by decide +kernel) (pa_cons (pe_lc (own := [("_law_pair", 12)]) (g := gName 12) rfl sc_l_right.nd (pi_list (pv 0)) (blkOk_by (N := NRt) (sc := defScope s_l_right) (own := [("_law_pair", 12)]) (by decide +kernel)) (fun _ _ _ _ _ => pg_name (i := 12) sc_l_right.nd rfl (Or.inl rfl)) (fun _ _ _ _ _ => pts_one (pt_cmpR op_ne (pe_ix (r := rIxT K) ix_tup (pv 12) pe_int (fun _ _ => rfl)) (pe_ix (r := rIxT K) ix_tup (pv 12) pe_int (fun _ _ => rfl)) (nomark _))) (fun _ _ _ _ _ => (pv 12))) pa_nil)) pa_nil)) rfl)
    (pss_cons (ps_if (PW.pt (pw_or (pt_cmpR op_ne (pe_callB (call_repr ga) (by rfl) T.b_repr (by decide +kernel) (pa_cons (pe_s (c_rings T.rs) hr (pa_cons (pv 2) pa_nil)) pa_nil)) (pe_callB (call_repr ga) (by rfl) T.b_repr (by decide +kernel) (pa_cons (pv 8) pa_nil)) (nomark _)) (pw_or (pt_cmpR op_ne (pe_callB (call_repr ga) (by rfl) T.b_repr (by decide +kernel) (pa_cons (pe_s (c_fewest T.rs) hr (pa_cons (pv 2) pa_nil)) pa_nil)) (pe_callB (call_repr ga) (by rfl) T.b_repr (by decide +kernel) (pa_cons (pe_op op_add (pv 9) (pe_callB call_len_seq (by rfl) T.lr.b_len (by decide +kernel) (pa_cons (pv 8) pa_nil))) pa_nil)) (nomark _)) (pw_or1 (pt_cmpR op_ne (pe_callB call_len_seq (by rfl) T.lr.b_len (by decide +kernel) (pa_cons (pv 3) pa_nil)) (pe_op op_add (pv 9) (pe_callB call_len_seq (by rfl) T.lr.b_len (by decide +kernel) (pa_cons (pv 8) pa_nil))) (nomark _))))))
        (pss_one (ps_ret pe_bl))
        pss_nil)
    (pss_cons (ps_set (i := 10) sc_l_right.nd rfl (.inl rfl) (pe_k0 (k_rings T.rs) hr (pk_cons (pv 2) pk_nil)))
    (pss_cons (ps_for PassesOwn.never rfl (pi_list (pe_op op_cat (pv 10) (pe_lst (pa_cons (pv 4) (pa_cons (pv 10) pa_nil))))) (pg_name (i := 11) sc_l_right.nd rfl (.inl rfl))
        (pss_one (ps_expr (pe_bm PySem.F.plainAttrs_list PySem.F.slot_list_append PySem.F.type_list_append mt_append (pv 11) (pa_cons pe_non pa_nil)))))
    (pss_one (ps_ret (pe_and (pe_cmpR op_eq (pe_k0 (k_fewest T.rs) hr (pk_cons (pv 2) pk_nil)) (pe_callB call_len_seq (by rfl) T.lr.b_len (by decide +kernel) (pa_cons (pv 3) pa_nil)) (nomark _)) (pe_and (pe_cmpR (op_eqD hr.units) (pe_s (c_moves T.rs.rg.rf.tv) hr (pa_cons (pv 2) (pa_cons (pv 1) pa_nil))) (pv 3) (nomark _)) (pe_and (pe_cmpR (op_eqD hr.units) (pe_s (c_rings T.rs) hr (pa_cons (pv 2) pa_nil)) (pv 8) (nomark _)) (pe_one (pe_cmpR (op_eqD hr.units) (pv 2) (pv 0) (nomark _)))))))))))))))))), ?_⟩
  obtain ⟨v, ps, s, rfl, hd, S, Fr, few, q⟩ := h
  have hu' : (A.deeper (envOfC "_law_right" (defScope s_l_right) st.heap.objs.size f cdv)).units + 200 < cLine := by
    have := hr.un
    omega
  obtain ⟨a, xs, rfl, ea, ra⟩ := hd.refl'
  have lx := ra.length
  rw [List.length_map] at lx
  have L := lf_of S Fr
  have rl := rule_len L
  have rc := rings_cnt L.nd
  have ll : (ps.filter unl).length ≤ 10 := Nat.le_trans (List.length_filter_le ..) few
  have cl : cnt (ps.filter unl) ≤ 10 := by
    have := List.length_filter_le (hedB (ps.filter unl)) ((ps.filter unl).map (·.1))
    rw [List.length_map] at this
    unfold cnt
    omega
  have rin : ∀ q ∈ ruleM s (ps.filter unl), InP q := run_pred (fun x => 0 ≤ x ∧ x < 100) Fr.1 _ _ fun q hq => S.inp q (List.mem_filter.mp hq).1
  have F1 : Fits [100, 2] (rowD (ruleM s (ps.filter unl))) := fits_row rin (by omega)
  have okM := F1.ok (by decide)
  have F2 : Fits [50, 50] (ringsD (ringsM (ps.filter unl))) := fits_rings (fun r hr => by
    have := ringsM_in (fun p hp => S.inp p (List.mem_filter.mp hp).1) r hr
    exact ⟨by omega, this.2⟩) (by omega)
  have okR := F2.ok (by decide)
  have okP := okd_pairs (ps := ps) (by omega)
  -- what is due, what is told
  refine ⟨_, rfl, a, xs, rfl, .inl (SqL.of ea), fun gv ngv => ?_⟩
  have s1 := same_new (o := .lst xs) ngv
  have hg1 : (upd H gv (.lst xs)) gv = some (.lst xs) := upd_same
  generalize upd H gv (.lst xs) = H1 at s1 hg1 ⊢
  refine ⟨_, rfl, _, rfl, .ref a, ps, s, rfl, hd.same s1 _, by omega, L, fun du H2 ndu s2 ddu => ⟨_, _, rfl, ?_⟩⟩
  have s02 := s1.trans s2
  have dgv : DT H2 (.ref gv) (rowD ps) := .lst (s2 _ _ hg1) (ra.same s02 _)
  have dsh : DT H2 (.ref a) (rowD ps) := hd.same s02 _
  have ddu : DT H2 (.ref du) (rowD (ruleM s (ps.filter unl))) := ddu
  clear hg1 s1 s2 ndu ngv
  refine ⟨_, rfl, _, rfl, .ref gv, ps, s, rfl, dgv, S, Fr, fun tl H3 ntl s3 dtl => ?_⟩
  have dtl : DT H3 (.ref tl) (rowD (ruleM s (ps.filter unl))) := dtl
  -- told as due
  refine ⟨_, rfl, r_fits dtl F1 (by decide) (by decide) hu' ⟨_, rfl, r_fits (ddu.same s3 _) F1 (by decide) (by decide) hu' ⟨rfl, _, rfl, neN ?_⟩⟩⟩
  refine ⟨_, rfl, _, rfl, rowD ps, rowD ps, DT.dp (good_plain _ okP.good) (dgv.same s3 _), DT.dp (good_plain _ okP.good) (dsh.same s3 _), okP.shaped, okP.shaped, _, rfl, neD okP ?_⟩
  refine ⟨_, rfl, _, rfl, .ref gv, ps, s, rfl, dgv.same s3 _, S, Fr, fun m2 H4 nm2 s4 dm2 => ?_⟩
  have dm2 : DT H4 (.ref m2) (rowD (ruleM s (ps.filter unl))) := dm2
  have s24 := s3.trans s4
  refine ⟨_, rfl, _, _, DT.dp (good_plain _ okM.good) dm2, DT.dp (good_plain _ okM.good) (ddu.same s24 _), okM.shaped, okM.shaped, _, rfl, neD okM ?_⟩
  obtain ⟨tacc, htl, _⟩ := dtl.lst'
  have ltl : tacc.length ≤ 20 := by
    obtain ⟨_, e, r⟩ := dtl.lst'
    rw [htl] at e
    obtain rfl := HO.lst.inj (Option.some.inj e)
    have := r.length
    rw [List.length_map] at this
    omega
  have htl4 := s4 _ _ htl
  clear dm2 nm2 dtl htl s3 s4
  -- the registers
  have ea4 := s02.trans s24 _ _ ea
  have ra4 := ra.same (s02.trans s24) _
  have dsh4 := dsh.same s24 _
  have dgv4 := dgv.same s24 _
  have ddu4 := ddu.same s24 _
  refine ⟨_, rfl, a, rfl, ⟨_, SqL.of ea4⟩, fun D hD => ?_⟩
  refine lc_it (walk_list (K := K) (a := a) (xs := xs)) (fun j H' => Same H4 H' ∧ ∃ as : List Addr, H' D = some (.lst (as.map V.ref)) ∧ as.length = j ∧ ∀ (i : Nat) (l : Addr) (p : Pr), as[i]? = some l → ps[i]? = some p → H' l = some (.lst [.int p.1, .int p.2]) ∧ l ≠ D)
    ⟨same_new hD, [], upd_same, rfl, fun i l p h => by simp at h⟩ (fun i H' _ z => SqL.of (z.1 _ _ ea4)) ?_ ?_
  · rintro j x H5 H6 hj ⟨s5, as, hD2, la, ha⟩ ⟨rfl, hx⟩
    obtain ⟨pr, t, hp, rfl, ht⟩ := pair_at ra4 hx
    refine ⟨rfl, ?_⟩
    refine ⟨_, rfl, t, _, rfl, .inr (SqT.of (s5 _ _ ht)), fun l nl => ?_⟩
    have nlD : l ≠ D := (ne_of_none hD2 nl).symm
    refine ⟨_, same_new nl _ _ hD2, ?_, ?_, as ++ [l], ?_, ?_, ?_⟩
    · rw [List.length_map, la]
      exact small1000' (by omega)
    · intro b' o e
      rw [upd_ne (ne_of_none e hD)]
      exact same_new nl _ _ (s5 _ _ e)
    · rw [upd_same, List.map_append]
      rfl
    · rw [List.length_append, la]
      rfl
    · intro i l' p' h1 h2
      by_cases hi : i < as.length
      · rw [List.getElem?_append_left hi] at h1
        obtain ⟨z1, z2⟩ := ha i l' p' h1 h2
        exact ⟨by rw [upd_ne z2]; exact same_new nl _ _ z1, z2⟩
      · rw [List.getElem?_append_right (by omega)] at h1
        have hi0 : i - as.length = 0 := by
          have := (List.getElem?_eq_some_iff.mp h1).1
          simp at this
          omega
        rw [hi0] at h1
        obtain rfl : l = l' := by simpa using h1
        obtain rfl : i = j := by omega
        obtain rfl : pr = p' := Option.some.inj (hp.symm.trans h2)
        exact ⟨by rw [upd_ne nlD]; exact upd_same, nlD⟩
  rintro H5 ⟨s5, as, hD2, la, ha⟩
  refine ⟨_, rfl, (show 2 ≤ sizeLine by decide), fun st nst => ?_⟩
  have s6 := same_new (o := .lst [.int s, .int 90]) nst
  have fl : ([.int s, .int 90] : List V) ++ (ps.map fun p => [V.int p.1, V.int p.2]).flatten = (s :: 90 :: entries ps).map V.int := by
    show V.int s :: V.int 90 :: (ps.map fun p => [V.int p.1, V.int p.2]).flatten = V.int s :: V.int 90 :: (entries ps).map V.int
    rw [entries, List.map_flatten, List.map_map]
    rfl
  have le_ : ∀ l : List Pr, (entries l).length = 2 * l.length := by
    intro l
    induction l with
    | nil => rfl
    | cons p l ih =>
      show (p.1 :: p.2 :: entries l).length = _
      rw [List.length_cons, List.length_cons, ih, List.length_cons]
      omega
  have len := le_ ps
  refine ⟨D, st, as, ps.map fun p => [V.int p.1, V.int p.2], [.int s, .int 90], rfl, s6 _ _ hD2, upd_same, by rw [List.length_map, la, lx], ?_, ?_, fun z H7 s7 hz => ?_⟩
  · intro i l z h1 h2
    rw [List.getElem?_map] at h2
    cases h3 : ps[i]? with
    | none =>
      rw [h3] at h2
      cases h2
    | some p =>
      rw [h3] at h2
      obtain rfl : [V.int p.1, V.int p.2] = z := Option.some.inj h2
      exact s6 _ _ (ha i l p h1 h3).1
  · rw [fl, List.length_map, List.length_cons, List.length_cons]
    exact Nat.le_of_lt (small1000' (by omega))
  rw [fl] at hz
  have s47 := (s5.trans s6).trans s7
  clear s5 s6 s7 ha la hD2 nst hD
  refine ⟨z, s :: 90 :: entries ps, rfl, SqL.of hz, by rw [List.length_cons, List.length_cons]; omega, fun sa n nsa le => ?_⟩
  rw [List.length_cons, List.length_cons] at le
  generalize hso : SetO _ sa (fun j => decide (j ∈ s :: 90 :: entries ps)) n = so
  refine ⟨sa, _, n, rfl, by rw [upd_same, ← hso] <;> rfl, by omega, fun ns q1 rise mem lenN nq => ?_⟩
  have s8 := s47.trans ((same_new (o := so) nsa).trans (same_new (o := .lst (ns.map V.int)) nq))
  have hq8 : (upd (upd H7 sa (so)) q1 (.lst (ns.map V.int))) q1 = some (.lst (ns.map V.int)) := upd_same
  generalize upd (upd H7 sa (so)) q1 (.lst (ns.map V.int)) = H8 at s8 hq8 ⊢
  have nd : ns.Nodup := rise.imp fun h => Int.ne_of_lt h
  have memb : ∀ x, x ∈ ns ↔ x ∈ s :: 90 :: entries ps := fun x => (mem x).trans (by simp)
  have small : ns.length ≤ 62 := by omega
  clear lenN le s47 hz hso nsa nq
  -- what is held
  have rns : ∀ p ∈ ruleM s (ps.filter unl), p.1 ∈ ns ∧ p.2 ∈ ns := run_pred (fun x => x ∈ ns) ((memb s).mpr (List.mem_cons_self ..)) _ _ fun q hq => by
    have := (List.mem_filter.mp hq).1
    exact ⟨(memb _).mpr (List.mem_cons_of_mem _ (List.mem_cons_of_mem _ (mem_entries.mpr ⟨q, this, .inl rfl⟩))), (memb _).mpr (List.mem_cons_of_mem _ (List.mem_cons_of_mem _ (mem_entries.mpr ⟨q, this, .inr rfl⟩)))⟩
  refine ⟨_, rfl, _, rfl, .ref du, ruleM s (ps.filter unl), q1, ns, rfl, ddu4.same s8 _, hq8, nd, by omega, rns, fun hp H9 nhp s9 hhp => ?_⟩
  have s49 := s8.trans s9
  obtain ⟨as, eas, la, pp⟩ := pairs_addr (K := K) (ra4.same s49 _)
  refine ⟨_, rfl, a, as, _, rfl, by rw [← eas]; exact SqL.of (s49 _ _ ea4), pp, fun d2 nd2 => ?_⟩
  rw [dict_of S.nd]
  refine ⟨(show 2 ≤ sizeLine by decide), fun t nt => ⟨t, _, rfl, SqT.of upd_same, rfl, _, _, rfl, _, _, rfl, rfl, ?_⟩⟩
  have sX := (same_new (o := .dK (ps.map kvP)) nd2).trans (same_new (o := .tup [.ref hp, .ref d2]) nt)
  have hd2 := (same_new (o := .tup [.ref hp, .ref d2]) nt) _ _ (show (upd H9 d2 (.dK (ps.map kvP))) d2 = _ from upd_same)
  generalize upd (upd H9 d2 (.dK (ps.map kvP))) t (.tup [.ref hp, .ref d2]) = H10 at sX hd2 ⊢
  have hhp10 := sX _ _ hhp
  have hq10 := sX _ _ (s9 _ _ hq8)
  have s410 := s49.trans sX
  clear sX nt nd2 pp eas la s49 hhp nhp s9 hq8 s8
  -- nothing is wrong
  refine ⟨_, rfl, q1, rfl, ⟨_, SqL.of hq10⟩, fun D3 hD3 => ?_⟩
  refine lc_it (walk_list (K := K) (a := q1) (xs := ns.map V.int)) (fun j H' => Same H10 H' ∧ H' D3 = some (.lst [])) ⟨same_new hD3, upd_same⟩ (fun i H' _ z => SqL.of (z.1 _ _ hq10)) ?_ ?_
  · rintro j x H11 H12 hj ⟨s11, hb⟩ ⟨rfl, hx⟩
    rw [List.length_map] at hj
    have hx2 : ns[j]? = some ns[j] := List.getElem?_eq_getElem hj
    rw [List.getElem?_map, hx2] at hx
    obtain rfl : V.int ns[j] = x := Option.some.inj hx
    have mj : ns[j] ∈ ns := List.getElem_mem hj
    generalize ns[j] = y at hx2 mj
    refine ⟨rfl, ?_⟩
    refine ⟨_, rfl, _, rfl, rfl, _, rfl, ifNeI (fun ne => ?_) (fun eq => ?_)⟩
    · have g := DGet.k (k := Sum.inl y) (s11 _ _ hhp10)
      rw [hk_val mj] at g
      refine ⟨_, rfl, _, rfl, hp, _, rfl, g, ?_⟩
      refine ⟨_, rfl, d2, rfl, .inl ⟨_, .inl (s11 _ _ hd2)⟩, _, rfl, _, rfl, _, DGet.k (k := Sum.inl y) (s11 _ _ hd2), ?_⟩
      rw [told_val, rule_does S Fr ne]
      exact ⟨rfl, _, rfl, neN ⟨s11, hb⟩⟩
    · exact iteF ⟨s11, hb⟩
  rintro H11 ⟨s11, hb⟩
  have ok0 := okd_pairs (ps := []) (by decide)
  refine ⟨Nat.zero_le _, fun e ne => ⟨.list [], .list [], .lst (SqL.of (same_new ne _ _ hb)) .nil, .lst (SqL.of upd_same) .nil, rfl, rfl, _, rfl, neD ok0 ?_⟩⟩
  have s412 := (s410.trans s11).trans (same_new (o := .lst []) ne)
  generalize upd H11 e (.lst []) = H12 at s412 ⊢
  clear ne hb s11 hD3 hd2 hhp10 hq10 s410 rns memb small nd rise mem
  -- rings
  refine ⟨_, rfl, .ref a, ps, rfl, dsh4.same s412 _, S, fun rg H13 nrg s13 rlg => ?_⟩
  have s413 := s412.trans s13
  have ea13 := s413 _ _ ea4
  have ra13 := ra4.same s413 _
  refine ⟨_, rfl, a, rfl, ⟨_, SqL.of ea13⟩, fun D4 hD4 => ?_⟩
  refine lc_it (walk_list (K := K) (a := a) (xs := xs)) (fun j H' => Same H13 H' ∧ ∃ acc : List V, H' D4 = some (.lst acc) ∧ acc.length = ((ps.take j).filter unl).length) ⟨same_new hD4, [], upd_same, rfl⟩ (fun i H' _ z => SqL.of (z.1 _ _ ea13)) ?_ ?_
  · rintro j x H14 H15 hj ⟨s14, acc, hb, la⟩ ⟨rfl, hx⟩
    obtain ⟨pr, t, hp, rfl, ht⟩ := pair_at ra13 hx
    have ft := filter_take' (f := unl) hp
    refine ⟨rfl, ?_⟩
    refine ⟨_, rfl, t, _, 0, _, rfl, rfl, SqT.of (s14 _ _ ht), rfl, _, rfl, t, _, 1, _, rfl, rfl, SqT.of (s14 _ _ ht), rfl, rfl, _, rfl, ifNeI (fun ne => ?_) (fun eq => ?_)⟩
    · refine ⟨_, rfl, acc, hb, ?_, ?_, _, upd_same, ?_⟩
      · have l2 := List.length_filter_le unl (ps.take j)
        rw [List.length_take] at l2
        exact small1000' (by omega)
      · intro b o e
        rw [upd_ne (ne_of_none e hD4)]
        exact s14 _ _ e
      · rw [ft, if_pos (by simp [unl, ne]), List.length_append, List.length_append, la]
        rfl
    · refine ⟨s14, acc, hb, ?_⟩
      rw [ft, if_neg (by simp [unl, eq]), List.append_nil]
      exact la
  rintro H14 ⟨s14, acc, hb, la⟩
  rw [lx, List.take_length] at la
  refine ⟨D4, acc, rfl, .inl (SqL.of hb), ⟨_, _, rfl, ?_⟩⟩
  rw [la]
  have s414 := s413.trans s14
  have rlg14 := rlg.same s14
  clear la hb s14 hD4 rlg ra13 ea13 s413 s13
  -- rings told as due
  have dgv14 := dgv4.same s414 _
  have htl12 := s412 _ _ htl4
  have exT : ∀ b ∈ [tl], ∃ o, H12 b = some o := fun b hb => ⟨_, (List.mem_singleton.mp hb) ▸ htl12⟩
  have nrT : rg ∉ [tl] := nin1 (ne_of_none htl12 nrg).symm
  have drg14 : DT (hid [tl] H14) (.ref rg) (ringsD (ringsM (ps.filter unl))) := rings_dt rlg14 nrT exT
  obtain ⟨rgas, hrg14, rgpa⟩ := rlg14
  have lrg := Paired.len rgpa
  refine ⟨_, rfl, .ref gv, ps, rfl, dgv14, S, fun r2 H15 nr2 s15 rl2 => ?_⟩
  have dr2 : DT H15 (.ref r2) (ringsD (ringsM (ps.filter unl))) := (rings_dt (S := []) rl2 (by simp) (fun b hb => (by cases hb))).same hid_same _
  have drg15 := (drg14.same hid_same _).same s15 _
  refine r_fits dr2 F2 (by decide) (by decide) hu' ⟨_, rfl, r_fits drg15 F2 (by decide) (by decide) hu' ⟨rfl, _, rfl, neN ?_⟩⟩
  refine ⟨_, rfl, .ref gv, ps, rfl, dgv14.same s15 _, S, fun H16 s16 => ?_⟩
  have s1416 := s15.trans s16
  have hrg16 := s1416 _ _ hrg14
  have eM : (((ps.filter unl).length : Nat) : Int) + (((rgas.map V.ref).length : Nat) : Int) = (((ps.filter unl).length + (ringsM (ps.filter unl)).length : Nat) : Int) := by
    rw [List.length_map, lrg, Int.natCast_add]
  have iF : Fits [] (.int ((((ps.filter unl).length : Nat) : Int) + (((rgas.map V.ref).length : Nat) : Int))) := by
    rw [eM]
    exact fits_nat (by omega)
  rw [← eM]
  refine r_fits (.int _) iF (by decide) (by decide) hu' ⟨_, rfl, _, rfl, rg, _, rfl, .inl (SqL.of hrg16), _, _, rfl, rfl, r_fits (.int _) iF (by decide) (by decide) hu' ⟨rfl, _, rfl, neN ?_⟩⟩
  have ddu16 := (ddu4.same s414 _).same s1416 _
  obtain ⟨dacc, hdu16, rdu16⟩ := ddu16.lst'
  have ldu := rdu16.length
  rw [List.length_map] at ldu
  refine ⟨_, rfl, du, _, rfl, .inl (SqL.of hdu16), _, rfl, _, rfl, rg, _, rfl, .inl (SqL.of hrg16), _, _, rfl, rfl, rfl, _, rfl, ?_⟩
  have eD : ((dacc.length : Nat) : Int) = (((ps.filter unl).length : Nat) : Int) + (((rgas.map V.ref).length : Nat) : Int) := by rw [eM, ldu, rl, rc]
  refine ifNeI (fun ne => absurd eD ne) (fun _ => ?_)
  -- the rings that are spoilt
  have s416 := s414.trans s1416
  refine ⟨_, rfl, .ref gv, ps, rfl, dgv14.same s1416 _, S, fun sh H17 nsh s17 rlsh => ?_⟩
  obtain ⟨shas, hsh, shpa⟩ := rlsh
  have lsh := Paired.len shpa
  have shmem : ∀ b ∈ shas, H16 b = none ∧ ∃ ys, H17 b = some (.lst ys) ∧ ys.length ≤ 50 := by
    intro b hb
    obtain ⟨j, r, e1, e2, e3⟩ := LiI.paired_ix shpa hb
    have := ringsM_in (fun p hp => S.inp p (List.mem_filter.mp hp).1) r (List.mem_of_getElem? e2)
    exact ⟨e3.1, _, e3.2.2, by rw [List.length_map]; omega⟩
  refine ⟨_, rfl, _, rfl, _, rfl, (show 2 ≤ sizeLine by decide), fun l2 nl2 => ⟨sh, l2, _, _, rfl, rfl, same_new nl2 _ _ hsh, upd_same, Nat.le_of_lt (small1000' (by rw [List.length_map, List.length_cons, List.length_cons, List.length_nil]; omega)), fun c nc => ?_⟩⟩
  have eL : shas.map V.ref ++ [V.ref tl, V.ref sh] = (shas ++ [tl, sh]).map V.ref := by
    rw [List.map_append]
    rfl
  rw [eL] at *
  have s1718 := (same_new (o := .lst [.ref tl, .ref sh]) nl2).trans (same_new (o := .lst ((shas ++ [tl, sh]).map V.ref)) nc)
  have hc18 : (upd (upd H17 l2 (.lst [.ref tl, .ref sh])) c (.lst ((shas ++ [tl, sh]).map V.ref))) c = some (.lst ((shas ++ [tl, sh]).map V.ref)) := upd_same
  have ncM : ∀ b o, H17 b = some o → c ≠ b := fun b o e z => by
    have := (same_new (o := .lst [.ref tl, .ref sh]) nl2) _ _ e
    rw [← z, nc] at this
    cases this
  generalize upd (upd H17 l2 (.lst [.ref tl, .ref sh])) c (.lst ((shas ++ [tl, sh]).map V.ref)) = H18 at s1718 hc18 ⊢
  have htl17 := s17 _ _ (s416 _ _ htl4)
  have memM : ∀ b ∈ shas ++ [tl, sh], ∃ ys, H17 b = some (.lst ys) ∧ ys.length ≤ 50 := by
    intro b hb
    rcases List.mem_append.mp hb with hb | hb
    · exact (shmem b hb).2
    · rcases List.mem_cons.mp hb with rfl | hb
      · exact ⟨_, htl17, by omega⟩
      · rw [List.mem_singleton.mp hb]
        exact ⟨_, hsh, by rw [List.length_map]; omega⟩
  have ncM2 : c ∉ shas ++ [tl, sh] := fun hb => by
    obtain ⟨ys, e, _⟩ := memM c hb
    exact ncM c _ e rfl
  refine ⟨c, rfl, ⟨_, SqL.of hc18⟩, ?_⟩
  refine for_it (walk_list (K := K) (a := c) (xs := (shas ++ [tl, sh]).map V.ref)) (fun j σ H' => (∃ x11 : Option V, σ = [some (.ref a), some (.int s), some (.ref gv), some (.ref du), some (.ref tl), some (.ref q1), some (.ref hp), some (.ref d2), some (.ref rg), some (.int (((ps.filter unl).length : Nat) : Int)), some (.ref sh), x11, none, none]) ∧ (∀ b o, b ∉ shas ++ [tl, sh] → H18 b = some o → H' b = some o) ∧ ∀ b ∈ shas ++ [tl, sh], ∃ ys, H' b = some (.lst ys) ∧ ys.length ≤ 50 + j)
    ⟨⟨_, rfl⟩, fun b o _ e => e, fun b hb => by
      obtain ⟨ys, e, l⟩ := memM b hb
      exact ⟨ys, s1718 _ _ e, l⟩⟩ (fun j σ H' _ z => SqL.of (z.2.1 _ _ ncM2 hc18)) ?_ ?_
  · rintro j x σ H19 H20 hj ⟨⟨x11, rfl⟩, k19, m19⟩ ⟨rfl, hx⟩
    rw [List.length_map] at hj
    have hx2 : (shas ++ [tl, sh])[j]? = some (shas ++ [tl, sh])[j] := List.getElem?_eq_getElem hj
    rw [List.getElem?_map, hx2] at hx
    obtain rfl : V.ref _ = x := Option.some.inj hx
    have mj : (shas ++ [tl, sh])[j] ∈ shas ++ [tl, sh] := List.getElem_mem hj
    generalize (shas ++ [tl, sh])[j] = b at hx2 mj
    obtain ⟨ys, hb, lb⟩ := m19 b mj
    have lM : (shas ++ [tl, sh]).length ≤ 100 := by
      rw [List.length_append, List.length_cons, List.length_cons, List.length_nil]
      omega
    refine ⟨_, rfl, .inl ⟨rfl, _, SqL.of hb⟩, b, ys, .non, rfl, rfl, hb, small1000' (by omega), ?_⟩
    refine ⟨⟨_, rfl⟩, ?_, ?_⟩
    · intro b' o nb e
      rw [upd_ne (fun (z : b' = b) => nb (by rw [z]; exact mj))]
      exact k19 b' o nb e
    · intro b' hb'
      by_cases e : b' = b
      · refine ⟨_, by rw [e]; exact upd_same, ?_⟩
        rw [List.length_append, List.length_singleton]
        omega
      · obtain ⟨ys', h1, h2⟩ := m19 b' hb'
        exact ⟨ys', (upd_ne e).trans h1, by omega⟩
  rintro σ H19 ⟨⟨x11, rfl⟩, k19, _⟩
  have s218 : Same H2 H18 := (s24.trans s416).trans (s17.trans s1718)
  have n16 : ∀ b, H16 b = none → H2 b = none := fun b e => (s24.trans s416).free e
  have nM2 : ∀ b o, H2 b = some o → b ∉ shas ++ [tl, sh] := by
    intro b o e hb
    have : H2 b = none := by
      rcases List.mem_append.mp hb with hb | hb
      · exact n16 b (shmem b hb).1
      · rcases List.mem_cons.mp hb with rfl | hb
        · exact ntl
        · rw [List.mem_singleton.mp hb]
          exact n16 sh nsh
    rw [this] at e
    cases e
  have s219 : Same H2 H19 := fun b o e => k19 b o (nM2 b o e) (s218 b o e)
  have sR : Same (hid [tl] H14) H19 := by
    intro b o e
    obtain ⟨nb, e⟩ := hid_out e
    refine k19 b o (fun hb => ?_) (s1718 _ _ (s17 _ _ (s1416 _ _ e)))
    have e16 := s1416 _ _ e
    rcases List.mem_append.mp hb with hb | hb
    · rw [(shmem b hb).1] at e16
      cases e16
    · rcases List.mem_cons.mp hb with rfl | hb
      · exact nb (by simp)
      · rw [List.mem_singleton.mp hb, nsh] at e16
        cases e16
  have s019 := s02.trans s219
  have dgvE := dgv.same s219 _
  have dshE := dsh.same s219 _
  have dduE := ddu.same s219 _
  have drgE := drg14.same sR _
  refine ⟨_, rfl, .ref gv, ps, rfl, dgvE, S, fun H20 s20 => ?_⟩
  obtain ⟨dacc2, hdu20, rdu20⟩ := (dduE.same s20 _).lst'
  have ldu2 := rdu20.length
  rw [List.length_map] at ldu2
  refine ⟨_, rfl, du, _, rfl, .inl (SqL.of hdu20), rfl, _, rfl, ifEqI (fun _ => ?_) (fun ne => absurd (by rw [ldu2, rl, rc]) ne)⟩
  refine ⟨_, rfl, _, rfl, .ref gv, ps, s, rfl, dgvE.same s20 _, S, Fr, fun m3 H21 nm3 s21 dm3 => ?_⟩
  have dm3 : DT H21 (.ref m3) (rowD (ruleM s (ps.filter unl))) := dm3
  have s1921 := s20.trans s21
  refine ⟨_, rfl, _, _, DT.dp (good_plain _ okM.good) dm3, DT.dp (good_plain _ okM.good) (dduE.same s1921 _), okM.shaped, okM.shaped, _, rfl, eqD okM ?_⟩
  refine ⟨_, rfl, .ref gv, ps, rfl, dgvE.same s1921 _, S, fun r3 H22 nr3 s22 rl3 => ?_⟩
  have dr3 : DT H22 (.ref r3) (ringsD (ringsM (ps.filter unl))) := (rings_dt (S := []) rl3 (by simp) (fun b hb => (by cases hb))).same hid_same _
  have s1922 := s1921.trans s22
  refine ⟨_, rfl, _, _, DT.dp (good_plain _ okR.good) dr3, DT.dp (good_plain _ okR.good) (drgE.same s1922 _), okR.shaped, okR.shaped, _, rfl, eqD okR ?_⟩
  refine ⟨_, rfl, _, rfl, rowD ps, rowD ps, DT.dp (good_plain _ okP.good) (dgvE.same s1922 _), DT.dp (good_plain _ okP.good) (dshE.same s1922 _), okP.shaped, okP.shaped, ?_⟩
  have := q H22 (s019.trans s1922)
  have e1 : PyData.eqv (rowD ps) (rowD ps) = true := eqv_ok okP
  rw [e1]
  exact this
end
end Cb
set_option Elab.async false
set_option linter.all false
set_option maxRecDepth 100000
set_option maxHeartbeats 4000000
namespace Cb
open PySem PySem.Spec PyProof.Rows L2
/-! ### fixed shuffles -/
def wheelP : List Pr := (List.range 40).map fun i => (((i : Nat) : Int), (((i : Nat) : Int) + 1) % 40)
theorem wheel_unl : wheelP.filter unl = wheelP := by decide +kernel
theorem wheel_nd : (wheelP.map (·.1)).Nodup := by decide +kernel
theorem wheel_shuf : Shuf wheelP := ⟨by decide +kernel, wheel_nd, by decide +kernel⟩
theorem wheel_free : Free wheelP 99 := ⟨by decide, by decide +kernel⟩
def rg40 : List Int := (List.range 40).map fun i => ((i : Nat) : Int)
theorem wheel_srt : srtI (wheelP.map (·.1)) = rg40 := by decide +kernel
theorem wheel_wk : (rg40.all fun x => decide (wk wheelP x 40 = some x) && decide ((0 : Int) ∈ ringL wheelP x)) = true := by decide +kernel
theorem wheel_r0 : ringL wheelP 0 = rg40 := by decide +kernel
theorem wheel_hed : ∀ x ∈ rg40, hedB wheelP x = decide (x = 0) := by
  intro x hx
  have h := List.all_eq_true.mp wheel_wk x hx
  rw [Bool.and_eq_true] at h
  have c : Cyc wheelP x := ⟨39, of_decide_eq_true h.1⟩
  have z := of_decide_eq_true h.2
  have d := ringL_done wheelP x
  by_cases e : x = 0
  · subst e
    rw [decide_eq_true rfl]
    refine hedB_iff.mpr ((hed_asked wheel_nd).mpr ⟨c, ?_, fun p hp _ => (d.orb c _).mpr ?_⟩)
    · rw [wheel_r0]
      decide +kernel
    · rw [wheel_r0]
      have : ∀ p ∈ wheelP, p.1 ∈ rg40 := by decide +kernel
      exact this p hp
  · rw [decide_eq_false e]
    cases hb : hedB wheelP x with
    | false => rfl
    | true =>
      exfalso
      have := (hedB_iff.mp hb).least 0 ((d.orb c 0).mpr z)
      have x0 : 0 ≤ x := by
        obtain ⟨i, _, rfl⟩ := List.mem_map.mp hx
        omega
      omega
theorem wheel_rings : ringsM wheelP = [rg40] := by
  unfold ringsM
  rw [wheel_srt, List.filter_congr wheel_hed]
  have : rg40.filter (fun x => decide (x = 0)) = [0] := by decide +kernel
  rw [this]
  show [ringL wheelP 0] = _
  rw [wheel_r0]
theorem wheel_len : (ruleM 99 (wheelP.filter unl)).length = 41 := by
  rw [rule_len (lf_of wheel_shuf wheel_free), ← rings_cnt (lf_of wheel_shuf wheel_free).nd, wheel_unl, wheel_rings]
  decide +kernel
theorem shufA : Shuf [(0, 1), (1, 0), (2, 0)] := ⟨by decide +kernel, by decide +kernel, by decide +kernel⟩
theorem freeA : Free [(0, 1), (1, 0), (2, 0)] 9 := ⟨by decide, by decide +kernel⟩
theorem ruleA : ruleM 9 (([(0, 1), (1, 0), (2, 0)] : List Pr).filter unl) = [(2, 0), (0, 1), (1, 2)] := by decide +kernel
theorem shufB : Shuf [(0, 1), (1, 0)] := ⟨by decide +kernel, by decide +kernel, by decide +kernel⟩
theorem freeB : Free [(0, 1), (1, 0)] 9 := ⟨by decide, by decide +kernel⟩
theorem ruleB : ruleM 9 (([(0, 1), (1, 0)] : List Pr).filter unl) = [(9, 0), (0, 1), (1, 9)] := by decide +kernel
theorem shufC : Shuf [] := ⟨fun p hp => (by cases hp), List.nodup_nil, Nat.zero_le _⟩
theorem freeC : Free [] 0 := ⟨by decide, fun p hp => (by cases hp)⟩
theorem ruleC : ruleM 0 (([] : List Pr).filter unl) = [] := by decide +kernel
theorem shufD : Shuf [(5, 5)] := ⟨by decide +kernel, by decide +kernel, by decide +kernel⟩
theorem freeD : Free [(5, 5)] 0 := ⟨by decide, by decide +kernel⟩
theorem ruleD : ruleM 0 (([(5, 5)] : List Pr).filter unl) = [] := by decide +kernel
/-! ### drawn ones -/
def upP (b : Int) (p : Pr) : Pr := (p.1 + b, p.2 + b)
def frL (b : Int) : List Nat := (List.range 100).filter fun p => !(decide (b ≤ ((p : Nat) : Int)) && decide (((p : Nat) : Int) < b + 10))
theorem frL_in {b : Int} {p : Nat} (h : p ∈ frL b) : (0 ≤ ((p : Nat) : Int) ∧ ((p : Nat) : Int) < 100) ∧ ¬ (b ≤ ((p : Nat) : Int) ∧ ((p : Nat) : Int) < b + 10) := by
  obtain ⟨h1, h2⟩ := List.mem_filter.mp h
  have h1 := List.mem_range.mp h1
  refine ⟨by omega, fun z => ?_⟩
  rw [decide_eq_true z.1, decide_eq_true z.2] at h2
  cases h2
theorem frL_pos {b : Int} (h0 : 0 ≤ b) : 0 < (frL b).length := by
  by_cases e : b = 0
  · exact List.length_pos_of_mem (a := 10) (List.mem_filter.mpr ⟨List.mem_range.mpr (by decide), by subst e; decide⟩)
  · refine List.length_pos_of_mem (a := 0) (List.mem_filter.mpr ⟨List.mem_range.mpr (by decide), ?_⟩)
    rw [decide_eq_false (show ¬ b ≤ ((0 : Nat) : Int) by omega)]
    rfl
theorem frL_len (b : Int) : (frL b).length ≤ 100 := by
  have := List.length_filter_le (fun p : Nat => !(decide (b ≤ ((p : Nat) : Int)) && decide (((p : Nat) : Int) < b + 10))) (List.range 100)
  rw [List.length_range] at this
  exact this
theorem up_shuf {ps : List Pr} {b : Int} {m : Nat} (low : ∀ q ∈ ps, LowM m q) (nd : (ps.map (·.1)).Nodup) (few : ps.length ≤ m) (m10 : m ≤ 10) (b0 : 0 ≤ b) (b1 : b ≤ 90) : Shuf (ps.map (upP b)) := by
  refine ⟨fun p hp => ?_, ?_, by rw [List.length_map]; omega⟩
  · obtain ⟨q, hq, rfl⟩ := List.mem_map.mp hp
    have := low q hq
    unfold LowM at this
    show (0 ≤ q.1 + b ∧ q.1 + b < 100) ∧ 0 ≤ q.2 + b ∧ q.2 + b < 100
    omega
  · have e : (ps.map (upP b)).map (·.1) = (ps.map (·.1)).map fun x => x + b := by
      rw [List.map_map, List.map_map]
      rfl
    rw [e]
    refine List.Pairwise.map _ (fun x y (ne : x ≠ y) z => ne ?_) nd
    omega
theorem up_free {ps : List Pr} {b : Int} {m : Nat} {p : Nat} (low : ∀ q ∈ ps, LowM m q) (m10 : m ≤ 10) (h : p ∈ frL b) : Free (ps.map (upP b)) ((p : Nat) : Int) := by
  obtain ⟨h1, h2⟩ := frL_in h
  refine ⟨h1, fun x hx => ?_⟩
  obtain ⟨q, hq, rfl⟩ := List.mem_map.mp hx
  have := low q hq
  unfold LowM at this
  show ¬ q.1 + b = _ ∧ ¬ q.2 + b = _
  omega
theorem low_shuf3 {ps : List Pr} (low : ∀ q ∈ ps, LowM 3 q) (nd : (ps.map (·.1)).Nodup) (few : ps.length ≤ 3) : Shuf ps ∧ Free ps 9 := by
  refine ⟨⟨fun p hp => ?_, nd, by omega⟩, by decide, fun p hp => ?_⟩
  · have := low p hp
    unfold LowM at this
    unfold InP
    omega
  · have := low p hp
    unfold LowM at this
    omega
end Cb
set_option Elab.async false
set_option linter.all false
set_option maxRecDepth 100000
set_option maxHeartbeats 8000000
namespace Cb
open PySem PySem.Spec PyProof.Rows L2
abbrev s_law : Stmt := topS 35
abbrev NLw : List Str := ["_law_script", "_law_generator_here", "_law_most", "_law_base", "_law_free", "_law_shuffle_here", "_law_small", "_law_wheel", "_law_place", "_law_one", "_law_other", "_law_at"]
theorem sc_law : FnScope NLw ["_law_script"] (defScope s_law) := ⟨rfl, rfl, rfl, by decide +kernel, rfl, by decide +kernel, by decide +kernel⟩
structure TLaw (K : PySem.W.Frag) (mg : Str → Option Value) : Prop where
  rt : TRt K mg
  sh : TShu K mg
  st : TSt K mg
theorem lit3 {H : Hp} {t u v l : Addr} {a b c d e f : Int} (nt : H t = none) (nu : (upd H t (.tup [.int a, .int b])) u = none) (nv : (upd (upd H t (.tup [.int a, .int b])) u (.tup [.int c, .int d])) v = none) (nl : (upd (upd (upd H t (.tup [.int a, .int b])) u (.tup [.int c, .int d])) v (.tup [.int e, .int f])) l = none) :
    Same H (upd (upd (upd (upd H t (.tup [.int a, .int b])) u (.tup [.int c, .int d])) v (.tup [.int e, .int f])) l (.lst [.ref t, .ref u, .ref v])) ∧ DT (upd (upd (upd (upd H t (.tup [.int a, .int b])) u (.tup [.int c, .int d])) v (.tup [.int e, .int f])) l (.lst [.ref t, .ref u, .ref v])) (.ref l) (.list (([(a, b), (c, d), (e, f)] : List Pr).map pairD)) :=
  ⟨((((same_new nt).trans (same_new nu)).trans (same_new nv)).trans (same_new nl)), .lst upd_same (.cons (.tup (same_new nl _ _ (same_new nv _ _ (same_new nu _ _ upd_same))) (.cons (.int _) (.cons (.int _) .nil))) (.cons (.tup (same_new nl _ _ (same_new nv _ _ upd_same)) (.cons (.int _) (.cons (.int _) .nil))) (.cons (.tup (same_new nl _ _ upd_same) (.cons (.int _) (.cons (.int _) .nil))) .nil)))⟩
section
variable {P : Program} {w : World} {K : PySem.W.Frag} {mg : Str → Option Value} {base : Heap}
def sp_law (K : PySem.W.Frag) : Sp := fun vs H Q _ => ∃ (p : Addr) (ns : List Int), vs = [.ref p] ∧ SqL K H p (ns.map V.int) ∧ ∀ H', Q (.bl true) H'
theorem c_law (T : TLaw K mg) {fl : Addr} {fdl : FuncData} (F : Fun K "law" "law" s_law fl fdl) : FnG P w K mg base CX0 12 fl fdl ["_law_script"] (sp_law K) := by
  refine fnG F sc_law (fun vs H Q E h => ?_) (fun f cdv A outer st H vs Q E ga hr h => ?_)
  · obtain ⟨_, _, rfl, _⟩ := h; rfl
  refine ⟨_, (pss_cons (ps_set (i := 1) sc_law.nd rfl (.inl rfl) (pe_s (c_l_generator T.sh.tg) hr (pa_cons (pv 0) (pa_cons pe_int pa_nil))))
    (pss_cons (ps_for PassesOwn.never rfl (pi_list (pe_lst (pa_cons pe_int (pa_cons pe_int (pa_cons pe_int pa_nil))))) (pg_name (i := 2) sc_law.nd rfl (.inl rfl))
        (pss_cons (ps_set (i := 3) sc_law.nd rfl (.inr rfl) (pe_ix ix_list (pe_lst (pa_cons pe_int (pa_cons (pe_s (c_l_random T.sh.tg) hr (pa_cons (pv 1) (pa_cons pe_int pa_nil))) (pa_cons pe_int pa_nil)))) (pe_s (c_l_random T.sh.tg) hr (pa_cons (pv 1) (pa_cons pe_int pa_nil))) (fun _ _ => rfl)))
        (pss_cons (ps_setLc (i := 4) (own := [("_law_place", 8)]) (g := gName 8) rfl sc_law.nd rfl rfl (sw_true rfl rfl rfl (by decide +kernel)) (pi_range1 (by rfl) T.sh.tg.b_range (pa_cons pe_int pa_nil)) (blkOk_by (N := NLw) (sc := defScope s_law) (own := [("_law_place", 8)]) (by decide +kernel)) (fun _ _ _ _ _ => pg_name (i := 8) sc_law.nd rfl (Or.inl rfl)) (fun _ _ _ _ _ => pts_one (pt_not (pt_chain op_le op_lt (pv 3) (pv 8) (pe_op op_add (pv 3) pe_int)))) (fun _ _ _ _ _ => (pv 8)))
        (pss_cons (ps_setLc (i := 5) (own := [("_law_one", 9), ("_law_other", 10)]) (g := gTup K 2 (gCons (gName 9) (gCons (gName 10) gNil))) (tt := tYes) rfl sc_law.nd rfl rfl (sw_true rfl rfl rfl (by decide +kernel)) (pi_list (pe_s (c_l_shuffle T.sh) hr (pa_cons (pv 1) (pa_cons (pv 2) pa_nil)))) (blkOk_by (N := NLw) (sc := defScope s_law) (own := [("_law_one", 9), ("_law_other", 10)]) (by decide +kernel)) (fun _ _ _ _ _ => pg_tup rfl ((pgs_cons (pg_name (i := 9) sc_law.nd rfl (.inl rfl)) (pgs_cons (pg_name (i := 10) sc_law.nd rfl (.inl rfl)) pgs_nil)))) (fun _ _ _ _ _ => pts_nil) (fun _ _ _ _ _ => (pe_tup (pa_cons (pe_op op_add (pv 9) (pv 3)) (pa_cons (pe_op op_add (pv 10) (pv 3)) pa_nil)))))
        (pss_one (ps_if (pt_not (pt_val (pe_g (c_l_right T.rt) ga hr (pa_cons (pv 5) (pa_cons (pe_ix ix_list (pv 4) (pe_s (c_l_random T.sh.tg) hr (pa_cons (pv 1) (pa_cons (pe_callB call_len_seq (by rfl) T.sh.tg.b_len (by decide +kernel) (pa_cons (pv 4) pa_nil)) pa_nil))) (fun _ _ => rfl)) pa_nil)))))
            (pss_one (ps_ret pe_bl))
            pss_nil))))))
    (pss_cons (ps_set (i := 6) sc_law.nd rfl (.inl rfl) (pe_s (c_l_shuffle T.sh) hr (pa_cons (pv 1) (pa_cons pe_int pa_nil))))
    (pss_cons (ps_if (pt_cmpR op_ne (pe_s (c_l_shortest T.st) hr (pa_cons (pv 6) (pa_cons pe_int (pa_cons (pe_lst (pa_cons pe_int (pa_cons pe_int (pa_cons pe_int (pa_cons pe_int pa_nil))))) pa_nil)))) (pe_callB call_len_seq (by rfl) T.sh.tg.b_len (by decide +kernel) (pa_cons (pe_s (c_l_rule T.rt.lru) hr (pa_cons (pv 6) (pa_cons pe_int pa_nil))) pa_nil)) (nomark _))
        (pss_one (ps_ret pe_bl))
        pss_nil)
    (pss_cons (ps_if (PW.pt (pw_or (pt_cmpR (op_neD hr.units) (pe_s (c_moves T.rt.rs.rg.rf.tv) hr (pa_cons (pe_lst (pa_cons (pe_tup (pa_cons pe_int (pa_cons pe_int pa_nil))) (pa_cons (pe_tup (pa_cons pe_int (pa_cons pe_int pa_nil))) (pa_cons (pe_tup (pa_cons pe_int (pa_cons pe_int pa_nil))) pa_nil)))) (pa_cons pe_int pa_nil))) (pe_lst (pa_cons (pe_tup (pa_cons pe_int (pa_cons pe_int pa_nil))) (pa_cons (pe_tup (pa_cons pe_int (pa_cons pe_int pa_nil))) (pa_cons (pe_tup (pa_cons pe_int (pa_cons pe_int pa_nil))) pa_nil)))) (nomark _)) (pw_or1 (pt_cmpR (op_neD hr.units) (pe_s (c_moves T.rt.rs.rg.rf.tv) hr (pa_cons (pe_lst (pa_cons (pe_tup (pa_cons pe_int (pa_cons pe_int pa_nil))) (pa_cons (pe_tup (pa_cons pe_int (pa_cons pe_int pa_nil))) pa_nil))) (pa_cons pe_int pa_nil))) (pe_lst (pa_cons (pe_tup (pa_cons pe_int (pa_cons pe_int pa_nil))) (pa_cons (pe_tup (pa_cons pe_int (pa_cons pe_int pa_nil))) (pa_cons (pe_tup (pa_cons pe_int (pa_cons pe_int pa_nil))) pa_nil)))) (nomark _)))))
        (pss_one (ps_ret pe_bl))
        pss_nil)
    (pss_cons (ps_setLc (i := 7) (own := [("_law_at", 11)]) (g := gName 11) (tt := tYes) rfl sc_law.nd rfl rfl (sw_true rfl rfl rfl (by decide +kernel)) (pi_range1 (by rfl) T.sh.tg.b_range (pa_cons pe_int pa_nil)) (blkOk_by (N := NLw) (sc := defScope s_law) (own := [("_law_at", 11)]) (by decide +kernel)) (fun _ _ _ _ _ => pg_name (i := 11) sc_law.nd rfl (Or.inl rfl)) (fun _ _ _ _ _ => pts_nil) (fun _ _ _ _ _ => (pe_tup (pa_cons (pv 11) (pa_cons (pe_op op_mod (pe_callTy (T := "int") (r := rInt1) call_intQ (by rfl) T.sh.tg.b_int (by decide +kernel) (pa_cons (pe_op op_add (pv 11) pe_int) pa_nil)) pe_int) pa_nil)))))
    (pss_one (ps_ret (pe_and (pe_cmpR op_eq (pe_callB call_len_seq (by rfl) T.sh.tg.b_len (by decide +kernel) (pa_cons (pe_s (c_moves T.rt.rs.rg.rf.tv) hr (pa_cons (pv 7) (pa_cons pe_int pa_nil))) pa_nil)) pe_int (nomark _)) (pe_and (pe_cmpR (op_eqD hr.units) (pe_s (c_rings T.rt.rs) hr (pa_cons (pv 7) pa_nil)) (pe_lst (pa_cons (pe_listRg rfl (by rfl) T.sh.b_list (prg_1 (by rfl) T.sh.tg.b_range pe_int)) pa_nil)) (nomark _)) (pe_and (pe_cmpR (op_eqD hr.units) (pe_s (c_moves T.rt.rs.rg.rf.tv) hr (pa_cons (pe_lst pa_nil) (pa_cons pe_int pa_nil))) (pe_lst pa_nil) (nomark _)) (pe_one (pe_cmpR (op_eqD hr.units) (pe_s (c_moves T.rt.rs.rg.rf.tv) hr (pa_cons (pe_lst (pa_cons (pe_tup (pa_cons pe_int (pa_cons pe_int pa_nil))) pa_nil)) (pa_cons pe_int pa_nil))) (pe_lst pa_nil) (nomark _)))))))))))))), ?_⟩
  obtain ⟨p, ns, rfl, hp, q⟩ := h
  refine ⟨_, rfl, p, ns, 0, rfl, hp, by decide, by decide, fun g a0 sd H1 ng s1 hg => ?_⟩
  have G1 : Gn g sd 0 0 H1 := ⟨a0, _, hg, by decide, by decide⟩
  refine ⟨(show 3 ≤ sizeLine by decide), fun L nL => ⟨L, rfl, ⟨_, SqL.of upd_same⟩, ?_⟩⟩
  have nLg : L ≠ g := G1.some nL
  have GL := G1.new (o := .lst [.int 3, .int 6, .int 10]) nL
  have hL : (upd H1 L (.lst [.int 3, .int 6, .int 10])) L = some (.lst [.int 3, .int 6, .int 10]) := upd_same
  generalize upd H1 L (.lst [.int 3, .int 6, .int 10]) = HL at GL hL ⊢
  clear G1 nL hg s1 ng
  refine for_it (walk_list (K := K) (a := L) (xs := [.int 3, .int 6, .int 10])) (fun j σ H' => (∃ x2 x3 x4 x5 : Option V, σ = [some (.ref p), some (.ref g), x2, x3, x4, x5, none, none, none, none, none, none]) ∧ Keep [g] HL H' ∧ Gn g sd 0 (224 * j) H')
    ⟨⟨_, _, _, _, rfl⟩, Keep.refl, GL⟩ (fun j σ H' _ z => SqL.of (z.2.1 _ _ (nin1 nLg) hL)) ?_ ?_
  · rintro j x σ H2 H3 hj ⟨⟨x2, x3, x4, x5, rfl⟩, k2, G2⟩ ⟨rfl, hx⟩
    have hj3 : j < 3 := hj
    obtain ⟨m, rfl, m1, m10⟩ : ∃ m : Nat, x = V.int (m : Nat) ∧ 1 ≤ m ∧ m ≤ 10 := by
      match j, hx with
      | 0, hx => exact ⟨3, (Option.some.inj hx).symm, by decide, by decide⟩
      | 1, hx => exact ⟨6, (Option.some.inj hx).symm, by decide, by decide⟩
      | 2, hx => exact ⟨10, (Option.some.inj hx).symm, by decide, by decide⟩
    clear hx
    refine ⟨_, rfl, draw G2 (by decide) (by omega) (by decide) (by decide) fun r1 H4 a0 a1 G4 k4 => ⟨(show 3 ≤ sizeLine by decide), fun Lb nLb => ?_⟩⟩
    have nLbg : Lb ≠ g := G4.some nLb
    have G5 := G4.new (o := .lst [.int 0, .int r1, .int 90]) nLb
    have hL5 : (upd H4 Lb (.lst [.int 0, .int r1, .int 90])) Lb = some (.lst (([0, r1, 90] : List Int).map V.int)) := upd_same
    have k5 := (k2.trans k4).trans (same_keep (same_new (o := .lst [.int 0, .int r1, .int 90]) nLb))
    generalize upd H4 Lb (.lst [.int 0, .int r1, .int 90]) = H5 at G5 hL5 k5 ⊢
    refine ⟨_, rfl, draw G5 (by decide) (by omega) (by decide) (by decide) fun r2 H6 c0 c1 G6 k6 => ?_⟩
    have hL6 := k6 _ _ (nin1 nLbg) hL5
    have k26 := k5.trans k6
    obtain ⟨b, hb, b0, b1⟩ : ∃ b : Int, atI (([0, r1, 90] : List Int).map V.int) r2 = some (.int b) ∧ 0 ≤ b ∧ b ≤ 90 := by
      have : r2 = 0 ∨ r2 = 1 ∨ r2 = 2 := by omega
      rcases this with rfl | rfl | rfl
      · exact ⟨0, rfl, by decide, by decide⟩
      · exact ⟨r1, rfl, a0, by omega⟩
      · exact ⟨90, rfl, by decide, by decide⟩
    refine ⟨Lb, _, r2, _, rfl, rfl, SqL.of hL6, hb, ?_⟩
    clear hL6 hL5 k5 k6 hb nLb G5 G4 k4
    -- the free ones
    refine ⟨_, rfl, by decide, by decide, fun D hD => ?_⟩
    refine lc_it (walk_range (lo := 0) (n := 100)) (fun i H' => Same H6 H' ∧ H' D = some (.lst ((((List.range i).filter fun p => !(decide (b ≤ ((p : Nat) : Int)) && decide (((p : Nat) : Int) < b + 10))).map fun p => ((p : Nat) : Int)).map V.int))) ⟨same_new hD, upd_same⟩ (fun i H' _ z => trivial) ?_ ?_
    · rintro i x H7 H8 hi ⟨s7, hD7⟩ ⟨rfl, hx⟩
      obtain rfl : x = V.int ((i : Nat) : Int) := hx.trans (congrArg V.int (Int.zero_add _))
      clear hx
      have fj := range_filter (fun p : Nat => !(decide (b ≤ ((p : Nat) : Int)) && decide (((p : Nat) : Int) < b + 10))) i
      have lf := List.length_filter_le (fun p : Nat => !(decide (b ≤ ((p : Nat) : Int)) && decide (((p : Nat) : Int) < b + 10))) (List.range i)
      rw [List.length_range] at lf
      refine ⟨rfl, ?_⟩
      have isin : ∀ bb : Bool, bb = (decide (b ≤ ((i : Nat) : Int)) && decide (((i : Nat) : Int) < b + 10)) → (if (!bb) = true then tVar 8 ([some (.ref p), some (.ref g), some (.int (m : Nat)), some (.int b), none, x5, none, none, some (.int (i : Nat)), none, none, none] : L2.St) H8 fun y H4 => ∃ acc, H4 D = some (.lst acc) ∧ acc.length < sizeLine ∧ (Same H6 (upd H4 D (.lst (acc ++ [y]))) ∧ (upd H4 D (.lst (acc ++ [y]))) D = some (.lst ((((List.range (i + 1)).filter fun p => !(decide (b ≤ ((p : Nat) : Int)) && decide (((p : Nat) : Int) < b + 10))).map fun p => ((p : Nat) : Int)).map V.int))) else (Same H6 H8 ∧ H8 D = some (.lst ((((List.range (i + 1)).filter fun p => !(decide (b ≤ ((p : Nat) : Int)) && decide (((p : Nat) : Int) < b + 10))).map fun p => ((p : Nat) : Int)).map V.int)))) := by
        intro bb eb
        rw [eb]
        refine ifB (fun h1 => ?_) (fun h1 => ?_)
        · refine ⟨_, rfl, _, hD7, small1000'' (by rw [List.length_map, List.length_map]; omega), ?_, ?_⟩
          · intro b' o e
            rw [upd_ne (ne_of_none e hD)]
            exact s7 _ _ e
          · rw [upd_same, fj, if_pos h1, List.map_append, List.map_append]
            rfl
        · refine ⟨s7, ?_⟩
          rw [fj, if_neg (by rw [h1]; decide), List.append_nil]
          exact hD7
      refine ⟨_, rfl, _, rfl, _, _, rfl, rfl, _, rfl, iteA (fun h1 => ⟨_, rfl, _, _, rfl, rfl, _, _, rfl, rfl, _, rfl, ?_⟩) (fun h1 => ⟨_, rfl, ?_⟩)⟩
      · refine isin _ ?_
        rw [h1]
        rfl
      · refine isin _ ?_
        rw [h1]
        rfl
    rintro H7 ⟨s7, hD7⟩
    have hD7 : H7 D = some (.lst (((frL b).map fun p => ((p : Nat) : Int)).map V.int)) := hD7
    have G7 := G6.same s7
    have k27 := k26.trans (same_keep s7)
    have nDg : D ≠ g := G6.some hD
    clear hD s7 G6 k26
    -- the pairs
    refine ⟨_, rfl, _, rfl, g, sd, 0, _, m, rfl, G7, by decide, by omega, m1, m10, fun sp ps H8 nsp dps low nd few G8 k8 => ?_⟩
    obtain ⟨pxs, hsp, rps⟩ := dps.lst'
    have lps := rps.length
    rw [List.length_map] at lps
    have hsp' := (hid_out hsp).2
    refine ⟨sp, rfl, ⟨_, SqL.of hsp'⟩, fun E1 hE => ?_⟩
    have nEg : E1 ≠ g := G8.some hE
    refine lc_it (walk_list (K := K) (a := sp) (xs := pxs)) (fun i H' => Same H8 H' ∧ ∃ acc, H' E1 = some (.lst acc) ∧ DTs (hid [g, E1] H') acc (((ps.take i).map (upP b)).map pairD)) ⟨same_new hE, [], upd_same, .nil⟩ (fun i H' _ z => SqL.of (z.1 _ _ hsp')) ?_ ?_
    · rintro i x H9 H10 hi ⟨s9, acc, hacc, dacc⟩ ⟨rfl, hx⟩
      obtain ⟨pr, t, hpi, rfl, ht⟩ := pair_at (rps.same hid_same _) hx
      have lac := dacc.length
      rw [List.length_map, List.length_map, List.length_take] at lac
      refine ⟨t, _, rfl, SqT.of (s9 _ _ ht), rfl, _, _, rfl, _, _, rfl, rfl, rfl, ?_⟩
      refine ⟨_, rfl, _, rfl, _, _, rfl, rfl, _, rfl, _, rfl, _, _, rfl, rfl, (show 2 ≤ sizeLine by decide), fun tt ntt => ?_⟩
      have ntE : tt ≠ E1 := (ne_of_none hacc ntt).symm
      have ntg : tt ≠ g := (G8.same s9).some ntt
      refine ⟨acc, same_new ntt _ _ hacc, small1000'' (by omega), ?_, acc ++ [.ref tt], upd_same, ?_⟩
      · intro b' o e
        rw [upd_ne (ne_of_none e hE)]
        exact same_new ntt _ _ (s9 _ _ e)
      · rw [List.take_add_one, hpi, List.map_append, List.map_append]
        have kk : Keep [g, E1] H10 (upd (upd H10 tt (.tup [.int (pr.1 + b), .int (pr.2 + b)])) E1 (.lst (acc ++ [.ref tt]))) := by
          intro b' o nb e
          rw [upd_ne (fun z => nb (by simp [z]))]
          exact same_new ntt _ _ e
        exact DTs.snoc (dacc.same kk.hid _) (.tup (hid_at (by simp [ntE, ntg]) (by rw [upd_ne ntE]; exact upd_same)) (.cons (.int _) (.cons (.int _) .nil)))
    rintro H9 ⟨s9, acc, hacc, dacc⟩
    rw [lps, List.take_length] at dacc
    have dE : DT (hid [g] H9) (.ref E1) (.list ((ps.map (upP b)).map pairD)) := .lst (hid_at (nin1 nEg) hacc) (dacc.same (hid_mono (by simp)) _)
    have G9 := G8.same s9
    have k29 := (k27.trans k8).trans (same_keep s9)
    have hD9 := s9 _ _ (k8 _ _ (nin1 nDg) hD7)
    clear dacc hacc hE hsp hsp' rps dps s9
    -- right
    have fpos := frL_pos b0
    have flen := frL_len b
    refine ⟨_, rfl, _, rfl, _, rfl, _, rfl, D, _, rfl, .inl (SqL.of hD9), ?_⟩
    have el : (((((frL b).map fun p => ((p : Nat) : Int)).map V.int).length : Nat) : Int) = ((frL b).length : Int) := by rw [List.length_map, List.length_map]
    refine draw G9 (by decide) (by omega) (by omega) (Nat.lt_of_lt_of_le (show ((((((frL b).map fun p => ((p : Nat) : Int)).map V.int).length : Nat) : Int)).natAbs < 2 ^ 11 by omega) (Nat.pow_le_pow_right (by decide) (by decide))) fun r3 H10 d0 d1 G10 k10 => ?_
    obtain ⟨k, rfl⟩ : ∃ k : Nat, r3 = (k : Int) := ⟨r3.toNat, (Int.toNat_of_nonneg d0).symm⟩
    have lk : k < (frL b).length := by omega
    have hk : (((frL b).map fun p => ((p : Nat) : Int)).map V.int)[k]? = some (V.int (((frL b)[k] : Nat) : Int)) := by
      rw [List.getElem?_map, List.getElem?_map, List.getElem?_eq_getElem lk]
      rfl
    have mk : (frL b)[k] ∈ frL b := List.getElem_mem lk
    generalize (frL b)[k] = s at hk mk
    refine ⟨D, _, (k : Int), _, rfl, rfl, SqL.of (k10 _ _ (nin1 nDg) hD9), atI_nat hk, ?_⟩
    refine ⟨.ref E1, ps.map (upP b), ((s : Nat) : Int), rfl, (dE.same k10.hid _).same hid_same _, up_shuf low nd few m10 b0 b1, up_free low m10 mk, by rw [List.length_map]; omega, fun H11 s11 => ?_⟩
    exact ⟨_, rfl, iteF ⟨⟨_, _, _, _, rfl⟩, (k29.trans k10).trans (same_keep s11), (G10.same s11).mono (by omega)⟩⟩
  rintro σ H2 ⟨⟨x2, x3, x4, x5, rfl⟩, k2, G2⟩
  -- a small one
  refine ⟨_, rfl, g, sd, 0, _, 3, rfl, G2, by decide, by decide, by decide, by decide, fun sm ps H3 nsm dsm low nd few G3 k3 => ?_⟩
  have dsm3 : DT H3 (.ref sm) (.list (ps.map pairD)) := dsm.same hid_same _
  obtain ⟨S3, F3⟩ := low_shuf3 low nd few
  clear dsm G3 k3 G2 k2 GL hL nLg
  refine ⟨_, rfl, (show 4 ≤ sizeLine by decide), fun q1 nq1 => ?_⟩
  refine ⟨.ref sm, ps, q1, rfl, dsm3.same (same_new nq1) _, upd_same, low, few, nd, fun H4 s4 => ?_⟩
  have dsm4 := (dsm3.same (same_new nq1) _).same s4 _
  refine ⟨_, rfl, .ref sm, ps, 9, rfl, dsm4, by omega, lf_of S3 F3, fun ru H5 nru s5 dru => ?_⟩
  obtain ⟨racc, hru, rru⟩ := dru.lst'
  have lru := rru.length
  rw [List.length_map] at lru
  refine ⟨ru, _, rfl, .inl (SqL.of hru), rfl, _, rfl, ifNeI (fun ne => absurd (by rw [lru]) ne) (fun _ => ?_)⟩
  clear rru hru dru nru s5 dsm4 s4 dsm3 nq1 lru S3 F3 low nd few
  -- three, and two
  have okA := okd_pairs (ps := [(2, 0), (0, 1), (1, 2)]) (by decide)
  have okB := okd_pairs (ps := [(9, 0), (0, 1), (1, 9)]) (by decide)
  refine ⟨(show 2 ≤ sizeLine by decide), fun t1 n1 => ⟨(show 2 ≤ sizeLine by decide), fun t2 n2 => ⟨(show 2 ≤ sizeLine by decide), fun t3 n3 => ⟨(show 3 ≤ sizeLine by decide), fun l n4 => ?_⟩⟩⟩⟩
  obtain ⟨_, dA⟩ := lit3 n1 n2 n3 n4
  refine ⟨.ref l, _, 9, rfl, dA, shufA, freeA, fun m1 H6 nm1 s6 dm1 => ?_⟩
  rw [ruleA] at dm1
  refine ⟨(show 2 ≤ sizeLine by decide), fun t1 n1 => ⟨(show 2 ≤ sizeLine by decide), fun t2 n2 => ⟨(show 2 ≤ sizeLine by decide), fun t3 n3 => ⟨(show 3 ≤ sizeLine by decide), fun l n4 => ?_⟩⟩⟩⟩
  obtain ⟨sA, dA⟩ := lit3 (a := 2) (b := 0) (c := 0) (d := 1) (e := 1) (f := 2) n1 n2 n3 n4
  refine ⟨_, _, DT.dp (good_plain _ okA.good) (dm1.same sA _), DT.dp (good_plain _ okA.good) dA, okA.shaped, okA.shaped, _, rfl, neD okA ?_⟩
  generalize upd _ l (.lst [.ref t1, .ref t2, .ref t3]) = H7
  clear sA dA n4 n3 n2 n1 dm1 s6 nm1
  refine ⟨(show 2 ≤ sizeLine by decide), fun t1 n1 => ⟨(show 2 ≤ sizeLine by decide), fun t2 n2 => ⟨(show 2 ≤ sizeLine by decide), fun l n4 => ?_⟩⟩⟩
  obtain ⟨_, dA⟩ := lit2 n1 n2 n4
  refine ⟨.ref l, _, 9, rfl, dA, shufB, freeB, fun m1 H6 nm1 s6 dm1 => ?_⟩
  rw [ruleB] at dm1
  refine ⟨(show 2 ≤ sizeLine by decide), fun t1 n1 => ⟨(show 2 ≤ sizeLine by decide), fun t2 n2 => ⟨(show 2 ≤ sizeLine by decide), fun t3 n3 => ⟨(show 3 ≤ sizeLine by decide), fun l n4 => ?_⟩⟩⟩⟩
  obtain ⟨sA, dA⟩ := lit3 (a := 9) (b := 0) (c := 0) (d := 1) (e := 1) (f := 9) n1 n2 n3 n4
  refine ⟨_, _, DT.dp (good_plain _ okB.good) (dm1.same sA _), DT.dp (good_plain _ okB.good) dA, okB.shaped, okB.shaped, _, rfl, neD okB ?_⟩
  generalize upd _ l (.lst [.ref t1, .ref t2, .ref t3]) = H8
  clear sA dA n4 n3 n2 n1 dm1 s6 nm1 okA okB
  -- the wheel
  refine ⟨_, rfl, by decide, by decide, fun D hD => ?_⟩
  have wl : wheelP.length = 40 := by decide +kernel
  have wat : ∀ i, i < 40 → wheelP[i]? = some (((i : Nat) : Int), (((i : Nat) : Int) + 1) % 40) := by
    intro i hi
    unfold wheelP
    rw [List.getElem?_map, List.getElem?_range hi]
    rfl
  refine lc_it (walk_range (lo := 0) (n := 40)) (fun i H' => Same H8 H' ∧ ∃ acc, H' D = some (.lst acc) ∧ DTs (hid [D] H') acc ((wheelP.take i).map pairD)) ⟨same_new hD, [], upd_same, .nil⟩ (fun i H' _ z => trivial) ?_ ?_
  · rintro i x H9 H10 hi ⟨s9, acc, hacc, dacc⟩ ⟨rfl, hx⟩
    obtain rfl : x = V.int ((i : Nat) : Int) := hx.trans (congrArg V.int (Int.zero_add _))
    clear hx
    have lac := dacc.length
    rw [List.length_map, List.length_take] at lac
    refine ⟨rfl, ?_⟩
    refine ⟨_, rfl, _, rfl, _, _, rfl, rfl, .inl ⟨_, rfl, _, _, rfl, rfl, (show (0 : Int) < 40 by decide), (show 2 ≤ sizeLine by decide), fun tt ntt => ?_⟩⟩
    have ntD : tt ≠ D := (ne_of_none hacc ntt).symm
    refine ⟨acc, same_new ntt _ _ hacc, small1000'' (by omega), ?_, acc ++ [.ref tt], upd_same, ?_⟩
    · intro b' o e
      rw [upd_ne (ne_of_none e hD)]
      exact same_new ntt _ _ (s9 _ _ e)
    · rw [List.take_add_one, wat i hi, List.map_append]
      have kk : Keep [D] H10 (upd (upd H10 tt (.tup [.int (i : Nat), .int ((((i : Nat) : Int) + 1) % 40)])) D (.lst (acc ++ [.ref tt]))) := by
        intro b' o nb e
        rw [upd_ne (fun z => nb (by simp [z]))]
        exact same_new ntt _ _ e
      exact DTs.snoc (dacc.same kk.hid _) (.tup (hid_at (nin1 ntD) (by rw [upd_ne ntD]; exact upd_same)) (.cons (.int _) (.cons (.int _) .nil)))
  rintro H9 ⟨_, acc, hacc, dacc⟩
  rw [← wl, List.take_length] at dacc
  have dW : DT H9 (.ref D) (rowD wheelP) := .lst hacc (dacc.same hid_same _)
  clear dacc hacc hD
  refine ⟨_, rfl, .ref D, wheelP, 99, rfl, dW, wheel_shuf, wheel_free, fun mw H10 nmw s10 dmw => ?_⟩
  obtain ⟨macc, hmw, rmw⟩ := dmw.lst'
  have lmw := rmw.length
  rw [List.length_map, wheel_len] at lmw
  refine ⟨mw, _, rfl, .inl (SqL.of hmw), rfl, _, rfl, ifEqI (fun _ => ?_) (fun ne => absurd (by rw [lmw]; rfl) ne)⟩
  have dW10 := dW.same s10 _
  refine ⟨_, rfl, .ref D, wheelP, rfl, dW10, wheel_shuf, fun rw_ H11 nrw s11 rlw => ?_⟩
  rw [wheel_unl, wheel_rings] at rlw
  have drw : DT H11 (.ref rw_) (ringsD [rg40]) := (rings_dt (S := []) rlw (by simp) (fun b hb => (by cases hb))).same hid_same _
  have okR : OKd (ringsD [rg40]) := (fits_rings (rs := [rg40]) (by decide +kernel) (by decide)).ok (by decide)
  refine ⟨40, rfl, ⟨by decide, by decide, by decide, by decide, by decide⟩, fun q2 nq2 => ⟨(show 1 ≤ sizeLine by decide), fun l2 nl2 => ?_⟩⟩
  have sq := same_new (o := .lst (rgV 0 40)) nq2
  have sl := same_new (o := .lst [.ref q2]) nl2
  have hq2 : (upd H11 q2 (.lst (rgV 0 40))) q2 = some (.lst (rg40.map V.int)) := by
    rw [upd_same]
    exact congrArg (fun z => some (HO.lst z)) (rg_ints 40)
  refine ⟨_, _, DT.dp (good_plain _ okR.good) ((drw.same sq _).same sl _), DT.dp (good_plain _ okR.good) (.lst upd_same (.cons (.lst (sl _ _ hq2) (dts_ints _)) .nil)), okR.shaped, okR.shaped, _, rfl, eqD okR ?_⟩
  generalize upd _ l2 (.lst [.ref q2]) = H12
  clear hq2 sl sq nl2 nq2 drw rlw nrw s11 dW10 lmw rmw hmw dmw nmw s10
  have ok0 := okd_pairs (ps := []) (by decide)
  refine ⟨Nat.zero_le _, fun l n => ⟨.ref l, [], 0, rfl, (lit0 n).2, shufC, freeC, fun m1 H13 nm1 s13 dm1 => ?_⟩⟩
  rw [ruleC] at dm1
  refine ⟨Nat.zero_le _, fun l3 n3 => ⟨_, _, DT.dp (good_plain _ ok0.good) (dm1.same (same_new n3) _), DT.dp (good_plain _ ok0.good) (lit0 n3).2, ok0.shaped, ok0.shaped, _, rfl, eqD ok0 ?_⟩⟩
  generalize upd _ l3 (.lst []) = H14
  refine ⟨(show 2 ≤ sizeLine by decide), fun t n4 => ⟨(show 1 ≤ sizeLine by decide), fun l5 n5 => ⟨.ref l5, [(5, 5)], 0, rfl, (lit1 n4 n5).2, shufD, freeD, fun m2 H15 nm2 s15 dm2 => ?_⟩⟩⟩
  rw [ruleD] at dm2
  refine ⟨Nat.zero_le _, fun l6 n6 => ⟨_, _, DT.dp (good_plain _ ok0.good) (dm2.same (same_new n6) _), DT.dp (good_plain _ ok0.good) (lit0 n6).2, ok0.shaped, ok0.shaped, ?_⟩⟩
  have e1 : PyData.eqv (.list (([] : List Pr).map pairD)) (.list (([] : List Pr).map pairD)) = true := eqv_ok ok0
  have := q (upd H15 l6 (.lst []))
  rw [← e1] at this
  exact this
end
end Cb
set_option Elab.async false
set_option linter.all false
set_option maxRecDepth 100000
set_option maxHeartbeats 4000000
namespace Cb
open PySem PySem.Spec PyProof.Rows L2
theorem num_mk {K : PySem.W.Frag} {mg : Str → Option Value} {h : Heap} {x : Str} {i : Int} {t : PySem.Tok} (X : K.In h) (G : h.Ns mainGlobals mg) (e : PySem.W.nsIn K mainGlobals x = some (some (.int i t))) : ∃ t : PySem.Tok, mg x = some (.int i t) := ⟨t, PySem.W.mg_of X G e⟩
section
variable {w : World} {K : PySem.W.Frag} {mg : Str → Option Value}
theorem mk_law (tm : TMov K mg) (tg : TGen K mg) (du : Has K mg "unlike_pairs" s_unlike_pairs ["shuffle"]) (dra : Has K mg "reading_anew" s_reading_anew ["pairs", "old", "new"]) (dfa : Has K mg "first_able" s_first_able ["left"]) (be : mg "enumerate" = none)
    (dmo : Has K mg "moves_of" s_moves_of ["shuffle", "spare"]) (dmv : Has K mg "moves" s_moves ["shuffle", "spare"]) (kmv : HasK K mg "moves" s_moves ["shuffle", "spare"] ["spare", "shuffle"] List.reverse)
    (drf : Has K mg "ring_from" s_ring_from ["first", "table"]) (dro : Has K mg "rings_of" s_rings_of ["shuffle"]) (bso : mg "sorted" = none) (bmi : mg "min" = none)
    (dri : Has K mg "rings" s_rings ["shuffle"]) (kri : HasK K mg "rings" s_rings ["shuffle"] ["shuffle"] (fun l => l)) (dfw : Has K mg "fewest_moves" s_fewest_moves ["shuffle"]) (kfw : HasK K mg "fewest_moves" s_fewest_moves ["shuffle"] ["shuffle"] (fun l => l))
    (dlu : Has K mg "_law_rule" s_l_rule ["_law_shuffle_here", "_law_spare"]) (dlw : Has K mg "_law_walked" s_l_walked ["_law_row", "_law_registers"]) (dlr : Has K mg "_law_rings" s_l_rings ["_law_shuffle_here"])
    (drt : Has K mg "_law_right" s_l_right ["_law_shuffle_here", "_law_spare"]) (bse : mg "set" = none) (brp : mg "repr" = none)
    (dsh : Has K mg "_law_shuffle" s_l_shuffle ["_law_generator_here", "_law_most"]) (bzi : mg "zip" = none) (dst : Has K mg "_law_shortest" s_l_shortest ["_law_shuffle_here", "_law_spare", "_law_registers"]) : TLaw K mg :=
  ⟨⟨⟨⟨⟨⟨⟨⟨⟨tm, du, dra⟩, dfa, be⟩, dmo⟩, dmv, kmv⟩, drf⟩, dro, bso, bmi⟩, dri, kri, dfw, kfw⟩, ⟨dlu⟩, ⟨dlw, tm.b_dict⟩, ⟨dlr, tm.b_dict, bso, bmi, tm.b_len⟩, drt, bse, tg.b_sum, brp⟩, ⟨tg, dsh, tm.b_list, bzi⟩, ⟨dst, tm.b_dict, tm.b_tuple, tm.b_range, tm.b_len⟩⟩
theorem ends {l : PySem.W.OpenLaw} {fa : Addr} (hfa : mg "law" = some (.ref fa)) (T : TLaw K mg) (dl : Has K mg "law" s_law ["_law_script"]) :
    ∃ fd : FuncData, (∀ (s : Shared) (u : Value), BindsTo s fd ⟨[u], []⟩ [("_law_script", u)]) ∧ ∀ base : Heap, K.In base → base.Ns mainGlobals mg → FnG l.prog w K mg base CX0 12 fa fd ["_law_script"] (sp_law K) := by
  obtain ⟨f, fd, F, hm, _⟩ := dl
  obtain rfl : f = fa := Value.ref.inj (Option.some.inj (hm.symm.trans hfa))
  refine ⟨fd, ?_, fun base _ _ => c_law T F⟩
  obtain ⟨oc, od, kV, doc, pm, an, cdv, ct, osl, rfl, lk, hcd⟩ := F.ex
  exact fun s u => .of_eq rfl
end
end Cb
set_option Elab.async false
set_option maxRecDepth 100000
open PySem PySem.W PyProof.Rows
set_option maxHeartbeats 0 in
theorem PySem.Challenge.cw_cellbills_k50_whole_moves_at_once_holds : PySem.Challenge.rw_cellbills_k50_whole_moves_at_once.Holds := by
  w_on; o_law; k_head; (case hw => w_witness2)
  k_fill
  refine Cb.walk_g (l := PySem.Challenge.rw_cellbills_k50_whole_moves_at_once) (n := 63) (k := 12) (x := "_law_script") (sp := fun K => Cb.sp_law K) rfl (by decide) rfl ⟨rfl, by decide, by decide⟩ (fun w h Y => PySem.W.kIn_of Y) ?F ?pr
  case pr => exact fun K H a ns _ _ hS => ⟨a, ns, rfl, hS, fun _ => rfl⟩
  case F =>
    intro w mg fa h KX G hmg
    refine' Cb.ends hmg ?T ?dl
    case dl =>
      refine' Cb.has KX G ?a ?l ?c ?k ?b
      (case a => k_is); (case l => k_is); (case c => k_is); (case k => k_is); (case b => exact fun _ _ _ _ _ _ us hl => match us, hl with | [_], _ => rfl)
    case T =>
      refine' Cb.mk_law ?tm ?tg ?du ?dra ?dfa ?be ?dmo ?dmv ?kmv ?drf ?dro ?bso ?bmi ?dri ?kri ?dfw ?kfw ?dlu ?dlw ?dlr ?drt ?bse ?brp ?dsh ?bzi ?dst
      case du =>
        refine' Cb.has KX G ?a ?l ?c ?k ?b
        (case a => k_is); (case l => k_is); (case c => k_is); (case k => k_is); (case b => exact fun _ _ _ _ _ _ us hl => match us, hl with | [_], _ => rfl)
      case dra =>
        refine' Cb.has KX G ?a ?l ?c ?k ?b
        (case a => k_is); (case l => k_is); (case c => k_is); (case k => k_is); (case b => exact fun _ _ _ _ _ _ us hl => match us, hl with | [_, _, _], _ => rfl)
      case dfa =>
        refine' Cb.has KX G ?a ?l ?c ?k ?b
        (case a => k_is); (case l => k_is); (case c => k_is); (case k => k_is); (case b => exact fun _ _ _ _ _ _ us hl => match us, hl with | [_], _ => rfl)
      case be => refine' PySem.W.mg_none_of KX G ?z; (case z => k_is)
      case dmo =>
        refine' Cb.has KX G ?a ?l ?c ?k ?b
        (case a => k_is); (case l => k_is); (case c => k_is); (case k => k_is); (case b => exact fun _ _ _ _ _ _ us hl => match us, hl with | [_, _], _ => rfl)
      case dmv =>
        refine' Cb.has KX G ?a ?l ?c ?k ?b
        (case a => k_is); (case l => k_is); (case c => k_is); (case k => k_is); (case b => exact fun _ _ _ _ _ _ us hl => match us, hl with | [_, _], _ => rfl)
      case kmv =>
        refine' Cb.hasK KX G ?a ?l ?c ?k (Cb.kb2 ?kb)
        (case a => k_is); (case l => k_is); (case c => k_is); (case k => k_is); (case kb => exact fun _ _ => rfl)
      case drf =>
        refine' Cb.has KX G ?a ?l ?c ?k ?b
        (case a => k_is); (case l => k_is); (case c => k_is); (case k => k_is); (case b => exact fun _ _ _ _ _ _ us hl => match us, hl with | [_, _], _ => rfl)
      case dro =>
        refine' Cb.has KX G ?a ?l ?c ?k ?b
        (case a => k_is); (case l => k_is); (case c => k_is); (case k => k_is); (case b => exact fun _ _ _ _ _ _ us hl => match us, hl with | [_], _ => rfl)
      case bso => refine' PySem.W.mg_none_of KX G ?z; (case z => k_is)
      case bmi => refine' PySem.W.mg_none_of KX G ?z; (case z => k_is)
      case dri =>
        refine' Cb.has KX G ?a ?l ?c ?k ?b
        (case a => k_is); (case l => k_is); (case c => k_is); (case k => k_is); (case b => exact fun _ _ _ _ _ _ us hl => match us, hl with | [_], _ => rfl)
      case kri =>
        refine' Cb.hasK KX G ?a ?l ?c ?k (Cb.kb1 ?kb)
        (case a => k_is); (case l => k_is); (case c => k_is); (case k => k_is); (case kb => exact fun _ => rfl)
      case dfw =>
        refine' Cb.has KX G ?a ?l ?c ?k ?b
        (case a => k_is); (case l => k_is); (case c => k_is); (case k => k_is); (case b => exact fun _ _ _ _ _ _ us hl => match us, hl with | [_], _ => rfl)
      case kfw =>
        refine' Cb.hasK KX G ?a ?l ?c ?k (Cb.kb1 ?kb)
        (case a => k_is); (case l => k_is); (case c => k_is); (case k => k_is); (case kb => exact fun _ => rfl)
      case dlu =>
        refine' Cb.has KX G ?a ?l ?c ?k ?b
        (case a => k_is); (case l => k_is); (case c => k_is); (case k => k_is); (case b => exact fun _ _ _ _ _ _ us hl => match us, hl with | [_, _], _ => rfl)
      case dlw =>
        refine' Cb.has KX G ?a ?l ?c ?k ?b
        (case a => k_is); (case l => k_is); (case c => k_is); (case k => k_is); (case b => exact fun _ _ _ _ _ _ us hl => match us, hl with | [_, _], _ => rfl)
      case dlr =>
        refine' Cb.has KX G ?a ?l ?c ?k ?b
        (case a => k_is); (case l => k_is); (case c => k_is); (case k => k_is); (case b => exact fun _ _ _ _ _ _ us hl => match us, hl with | [_], _ => rfl)
      case drt =>
        refine' Cb.has KX G ?a ?l ?c ?k ?b
        (case a => k_is); (case l => k_is); (case c => k_is); (case k => k_is); (case b => exact fun _ _ _ _ _ _ us hl => match us, hl with | [_, _], _ => rfl)
      case bse => refine' PySem.W.mg_none_of KX G ?z; (case z => k_is)
      case brp => refine' PySem.W.mg_none_of KX G ?z; (case z => k_is)
      case dsh =>
        refine' Cb.has KX G ?a ?l ?c ?k ?b
        (case a => k_is); (case l => k_is); (case c => k_is); (case k => k_is); (case b => exact fun _ _ _ _ _ _ us hl => match us, hl with | [_, _], _ => rfl)
      case bzi => refine' PySem.W.mg_none_of KX G ?z; (case z => k_is)
      case dst =>
        refine' Cb.has KX G ?a ?l ?c ?k ?b
        (case a => k_is); (case l => k_is); (case c => k_is); (case k => k_is); (case b => exact fun _ _ _ _ _ _ us hl => match us, hl with | [_, _, _], _ => rfl)
      case tg =>
        refine' ⟨?a1, ?a2, ?a3, ?a4, ?z1, ?z2, ?z3, ?z4, ?z5⟩
        case a1 =>
          refine' Cb.has KX G ?a ?l ?c ?k ?b
          (case a => k_is); (case l => k_is); (case c => k_is); (case k => k_is); (case b => exact fun _ _ _ _ _ _ us hl => match us, hl with | [_, _], _ => rfl)
        case a2 =>
          refine' Cb.has KX G ?a ?l ?c ?k ?b
          (case a => k_is); (case l => k_is); (case c => k_is); (case k => k_is); (case b => exact fun _ _ _ _ _ _ us hl => match us, hl with | [_, _], _ => rfl)
        case a3 =>
          refine' Cb.has KX G ?a ?l ?c ?k ?b
          (case a => k_is); (case l => k_is); (case c => k_is); (case k => k_is); (case b => exact fun _ _ _ _ _ _ us hl => match us, hl with | [_, _], _ => rfl)
        case a4 =>
          refine' Cb.has KX G ?a ?l ?c ?k ?b
          (case a => k_is); (case l => k_is); (case c => k_is); (case k => k_is); (case b => exact fun _ _ _ _ _ _ us hl => match us, hl with | [_, _], _ => rfl)
        case z1 => refine' PySem.W.mg_none_of KX G ?z; (case z => k_is)
        case z2 => refine' PySem.W.mg_none_of KX G ?z; (case z => k_is)
        case z3 => refine' PySem.W.mg_none_of KX G ?z; (case z => k_is)
        case z4 => refine' PySem.W.mg_none_of KX G ?z; (case z => k_is)
        case z5 => refine' PySem.W.mg_none_of KX G ?z; (case z => k_is)
      case tm =>
        refine' ⟨?f1, ?f2, ?f3, ?f4, ?f5, ?f6, ?f7, ?w1, ?w2, ?w3, ?w4, ?w5, ?w6, ?w7, ?w8, ?w9, ?w10, ?g1, ?g2⟩
        case f1 =>
          refine' Cb.has KX G ?a ?l ?c ?k ?b
          (case a => k_is); (case l => k_is); (case c => k_is); (case k => k_is); (case b => exact fun _ _ _ _ _ _ us hl => match us, hl with | [_], _ => rfl)
        case f2 =>
          refine' Cb.has KX G ?a ?l ?c ?k ?b
          (case a => k_is); (case l => k_is); (case c => k_is); (case k => k_is); (case b => exact fun _ _ _ _ _ _ us hl => match us, hl with | [_], _ => rfl)
        case f3 =>
          refine' Cb.has KX G ?a ?l ?c ?k ?b
          (case a => k_is); (case l => k_is); (case c => k_is); (case k => k_is); (case b => exact fun _ _ _ _ _ _ us hl => match us, hl with | [_], _ => rfl)
        case f4 =>
          refine' Cb.has KX G ?a ?l ?c ?k ?b
          (case a => k_is); (case l => k_is); (case c => k_is); (case k => k_is); (case b => exact fun _ _ _ _ _ _ us hl => match us, hl with | [_], _ => rfl)
        case f5 =>
          refine' Cb.has KX G ?a ?l ?c ?k ?b
          (case a => k_is); (case l => k_is); (case c => k_is); (case k => k_is); (case b => exact fun _ _ _ _ _ _ us hl => match us, hl with | [_], _ => rfl)
        case f6 =>
          refine' Cb.has KX G ?a ?l ?c ?k ?b
          (case a => k_is); (case l => k_is); (case c => k_is); (case k => k_is); (case b => exact fun _ _ _ _ _ _ us hl => match us, hl with | [_], _ => rfl)
        case f7 =>
          refine' Cb.has KX G ?a ?l ?c ?k ?b
          (case a => k_is); (case l => k_is); (case c => k_is); (case k => k_is); (case b => exact fun _ _ _ _ _ _ us hl => match us, hl with | [_, _], _ => rfl)
        case w1 => refine' PySem.W.mg_none_of KX G ?z; (case z => k_is)
        case w2 => refine' PySem.W.mg_none_of KX G ?z; (case z => k_is)
        case w3 => refine' PySem.W.mg_none_of KX G ?z; (case z => k_is)
        case w4 => refine' PySem.W.mg_none_of KX G ?z; (case z => k_is)
        case w5 => refine' PySem.W.mg_none_of KX G ?z; (case z => k_is)
        case w6 => refine' PySem.W.mg_none_of KX G ?z; (case z => k_is)
        case w7 => refine' PySem.W.mg_none_of KX G ?z; (case z => k_is)
        case w8 => refine' PySem.W.mg_none_of KX G ?z; (case z => k_is)
        case w9 => refine' PySem.W.mg_none_of KX G ?z; (case z => k_is)
        case w10 => refine' PySem.W.mg_none_of KX G ?z; (case z => k_is)
        case g1 => refine' Cb.num_mk KX G ?e; (case e => k_is)
        case g2 => refine' Cb.num_mk KX G ?e; (case e => k_is)
