"""The grammar of [21] once more, and a recognizer for it that shares nothing with the program.

It tells for a list of words how many of them are the beginning of a question, and whether all of them are one.
NAME, INTEGER, STRING and PARAMETER stand for whatever is none of the keywords and signs. The rules Sum, Where and
Having are written so because sum, where and having are keywords; `behind` is what may stand behind `is`: a sum that
does not begin with null.
"""

RULES = """
question: body | body order by keys | body order by keys first INTEGER
keys: key | keys , key
key: NAME | NAME desc
body: part | body union part | body union all part | body except part | body except all part
part: simple | part intersect simple | part intersect all simple
simple: ( question ) | select kind items from sources Where groups Having
kind: | distinct
items: * | listed
listed: item | listed , item
item: named | named as NAME | e as NAME
named: column | ( named )
sources: source | sources , source
Where: | where e
groups: | group by columns | group by ( )
columns: column | columns , column
Having: | having e
source: single | source join single on e | source inner join single on e | source left join single on e
source: source full join single on e | source cross join single
single: NAME | NAME as NAME | ( question ) as NAME | ( source )
column: NAME | NAME . NAME
e: both | e or both
both: no | both and no
no: test | not no
test: Sum | Sum sign Sum | Sum sign any ( question ) | Sum sign all ( question ) | Sum in ( question )
test: Sum not in ( question ) | Sum is null | Sum is not null | Sum is behind | Sum is not behind
test: exists ( question )
sign: = | <> | < | <= | > | >=
Sum: product | Sum + product | Sum - product
product: factor | product * factor
factor: null | filled
filled: - factor | INTEGER | STRING | PARAMETER | column | ( e ) | one ( question ) | case cases end
filled: case cases else e end | coalesce ( list ) | count ( * ) | count ( e ) | count ( distinct e )
filled: sum ( e ) | least ( e ) | most ( e )
behind: bproduct | behind + product | behind - product
bproduct: filled | bproduct * factor
cases: when e then e | cases when e then e
list: e | list , e
"""
MOST_OPEN = 30


def parsed(text):
    rules = {}
    for line in text.strip().split("\n"):
        head, _, bodies = line.partition(":")
        for body in bodies.split("|"):
            rules.setdefault(head, []).append(tuple(body.split()))
    return rules


TREES = parsed(RULES)
EMPTY = {head for head, bodies in TREES.items() if () in bodies}


def sort_of(word):
    if word[0] == "'":
        return "STRING"
    if word[0] == ":":
        return "PARAMETER"
    if word[0].isdigit():
        return "INTEGER"
    return word


def closure(states, fresh, column):
    """Adds to the states of a column all that come of them."""
    waiting = list(fresh)
    while waiting:
        head, body, dot, start = waiting.pop()
        found = []
        if dot < len(body):
            if body[dot] in TREES:
                found += [(body[dot], told, 0, column) for told in TREES[body[dot]]]
                if body[dot] in EMPTY:
                    found.append((head, body, dot + 1, start))
        else:
            for other in list(states[start]):
                if other[2] < len(other[1]) and other[1][other[2]] == head:
                    found.append((other[0], other[1], other[2] + 1, other[3]))
        for state in found:
            if state not in states[column]:
                states[column].add(state)
                waiting.append(state)


def recognized(words, keywords):
    """How many words are the beginning of a question, and whether all of them are one."""
    states = [set()]
    first = {("question", body, 0, 0) for body in TREES["question"]}
    states[0] |= first
    closure(states, first, 0)
    depth = 0
    for at, word in enumerate(words):
        depth += (word in ("(", "case")) - (word in (")", "end"))
        sort = word if word in keywords else sort_of(word)
        if sort not in keywords and sort.isalpha() and sort.islower():
            sort = "NAME"
        passed = {(head, body, dot + 1, start) for head, body, dot, start in states[at]
                  if dot < len(body) and body[dot] == sort and body[dot] not in TREES}
        if not passed or depth > MOST_OPEN:
            return at, False
        states.append(set(passed))
        closure(states, passed, at + 1)
    done = any(head == "question" and dot == len(body) and start == 0 for head, body, dot, start in states[-1])
    return len(words), done
